import PyProof.Rows.All
import Wide.All
import OpenK.AllK
import Wide.FinOn
import Lean
import PyProof.EqAt
import PyProof.EqKinds
import PyProof.TupleCall
import PyProof.NeKinds
import PyProof.DictItems
import PyProof.DictWalks
import KE.KTurnsDict
import KE.KDictSum
import KE.KSortKey
import KE.KBoundM
import KE.KMinKey
import KE.KRevIter
import KE.KFind
import KE.LcSums
import PyProof.ListRange
import PyProof.CollectIter
import PyProof.ConsumeWalk
import PyProof.ZipIter
import PySem.Challenge.RW_bothhands_k43_rows
set_option Elab.async false
set_option linter.all false
set_option maxRecDepth 100000
namespace L2
open PySem PySem.Spec PyProof.Rows
abbrev Key:=Sum Int Str
def Rf:Key->Value->Bool
 | .inl k,v=>Value.isInt k v
 | .inr x,v=>Value.isStrOf x v
def AiN (w:World):Key->Int
 | .inl k=>hashInt k
 | .inr x=>hashStr w x
theorem Df:∀ {k:Key} {v:Value},Rf k v = true->(∃ i t,k = Sum.inl i/\v = Value.int i t)\/(∃ x t,k = Sum.inr x/\v = Value.str x t)
 | .inl i,v,h=>by
  obtain ⟨t,e⟩:=Value.isInt_shape (k:=i) (v:=v) h
  exact .inl ⟨i,t,rfl,e⟩
 | .inr x,v,h=>by
  obtain ⟨t,e⟩:=Value.isStrOf_shape (x:=x) (v:=v) h
  exact .inr ⟨x,t,rfl,e⟩
theorem AaZ (i:Int) (t:Tok):Rf (.inl i) (.int i t) = true:=by simp [Rf,Value.isInt]
theorem Aa0 (x:Str) (t:Tok):Rf (.inr x) (.str x t) = true:=by simp [Rf,Value.isStrOf]
theorem Ahh (a b:Int):decide ((Sum.inl a:Key) = Sum.inl b) = (a == b):=by
 by_cases e:a = b
 ·subst e; simp
 ·have h:¬ (Sum.inl a:Key) = Sum.inl b:=fun q=>e (Sum.inl.inj q)
  rw [decide_eq_false h]
  exact (beq_eq_false_iff_ne.mpr e).symm
theorem Agp (a b:Str):decide ((Sum.inr a:Key) = Sum.inr b) = decide (a = b):=by
 by_cases e:a = b
 ·subst e; simp
 ·have h:¬ (Sum.inr a:Key) = Sum.inr b:=fun q=>e (Sum.inr.inj q)
  rw [decide_eq_false h,decide_eq_false e]
theorem Ag2 (a:Int) (b:Str):decide ((Sum.inl a:Key) = Sum.inr b) = false:=decide_eq_false (fun q=>nomatch q)
theorem Af2 (a:Str) (b:Int):decide ((Sum.inr a:Key) = Sum.inl b) = false:=decide_eq_false (fun q=>nomatch q)
def Cs (prog:Program) (w:World):PySem.KeyKind prog w Key where
 is:=Rf
 hash:=AiN w
 inj:=fun v a b ha hb=>by
  rcases Df ha with ⟨i,t,rfl,rfl⟩ | ⟨x,t,rfl,rfl⟩
  ·rcases Df hb with ⟨j,u,rfl,e⟩ | ⟨y,u,rfl,e⟩
   ·injection e with e1 _; rw [e1]
   ·exact nomatch e
  ·rcases Df hb with ⟨j,u,rfl,e⟩ | ⟨y,u,rfl,e⟩
   ·exact nomatch e
   ·injection e with e1 _; rw [e1]
 byValue:=fun k v h=>by
  rcases Df h with ⟨i,t,rfl,rfl⟩ | ⟨x,t,rfl,rfl⟩ <;> rfl
 pyHash:=fun hv h=>by
  rcases Df hv with ⟨i,t,rfl,rfl⟩ | ⟨x,t,rfl,rfl⟩
  ·exact wpAny_pyHash_int h
  ·exact wpAny_pyHash_str h
 eqBool:=fun hu hv h=>by
  rcases Df hu with ⟨i,t,rfl,rfl⟩ | ⟨x,t,rfl,rfl⟩
  ·rcases Df hv with ⟨j,u,rfl,rfl⟩ | ⟨y,u,rfl,rfl⟩
   ·rw [Ahh] at h; exact wpAny_eqBool_int h
   ·rw [Ag2] at h; exact SeqAt.EqAt.int_str i t y u _ _ _ _ h
  ·rcases Df hv with ⟨j,u,rfl,rfl⟩ | ⟨y,u,rfl,rfl⟩
   ·rw [Af2] at h; exact SeqAt.EqAt.str_int x t j u _ _ _ _ h
   ·rw [Agp] at h; exact wpAny_eqBool_str h
 «strs»:=fun k x t v h=>by
  rcases Df h with ⟨i,u,rfl,e⟩ | ⟨y,u,rfl,e⟩
  ·exact nomatch e
  ·injection e with e1 _
   subst e1
   cases v <;> rfl
theorem Ws (prog:Program) (w:World) (i:Int) (t:Tok):(Cs prog w).is (.inl i) (.int i t) = true:=AaZ i t
theorem Ww (prog:Program) (w:World) (x:Str) (t:Tok):(Cs prog w).is (.inr x) (.str x t) = true:=Aa0 x t
end L2
namespace L2
open PySem PySem.Spec PyProof.Rows
inductive V where
 | non | bl (b:Bool) | int (i:Int) | str (x:Str) | byt (b:Array UInt8) | flt (b:UInt64) | ref (a:Addr) | ty (n:String)
 deriving DecidableEq
def RelV:V->Value->Prop
 | .non,u=>u = Value.none
 | .bl b,u=>u = Value.bool b
 | .int i,u=>∃ t,u = Value.int i t
 | .str x,u=>∃ t,u = Value.str x t
 | .byt b,u=>∃ t,u = Value.bytes b t
 | .flt b,u=>∃ t,u = Value.float b t
 | .ref a,u=>u = Value.ref a
 | .ty n,u=>u = Value.type n
abbrev Vals:List V->List Value->Prop:=Paired RelV
theorem Vals.length {xs:List V} {us:List Value} (r:Vals xs us):xs.length = us.length:=Paired.length r
theorem Vals.get:∀ {xs:List V} {us:List Value} {i:Nat} {x:V},Vals xs us->xs[i]? = some x->∃ u,us[i]? = some u/\RelV x u
 | _,_,_,_,.nil,e=>by simp at e
 | _,_,0,_,.cons r _,e=>by simp at e; subst e; exact ⟨_,rfl,r⟩
 | _,_,i + 1,x,.cons _ t,e=>by
  obtain ⟨u,h1,h2⟩:=Vals.get (i:=i) (x:=x) t (by simpa using e)
  exact ⟨u,by simpa using h1,h2⟩
theorem Vals.append:∀ {xs ys:List V} {us ws:List Value},Vals xs us->Vals ys ws->Vals (xs ++ ys) (us ++ ws)
 | _,_,_,_,.nil,s=>s
 | _,_,_,_,.cons r t,s=>.cons r (Vals.append t s)
theorem Vals.take:∀ {xs:List V} {us:List Value} (n:Nat),Vals xs us->Vals (xs.take n) (us.take n)
 | _,_,0,_=>.nil
 | _,_,_ + 1,.nil=>.nil
 | _,_,n + 1,.cons r t=>.cons r (Vals.take n t)
theorem Vals.drop:∀ {xs:List V} {us:List Value} (n:Nat),Vals xs us->Vals (xs.drop n) (us.drop n)
 | _,_,0,r=>r
 | _,_,_ + 1,.nil=>.nil
 | _,_,n + 1,.cons _ t=>Vals.drop n t
def RelO:Option V->Option Value->Prop
 | some v,some u=>RelV v u
 | none,none=>True
 | _,_=>False
def KV {κ:Type}:List (κ × V)->List (κ × Value)->Prop:=Paired fun (p:κ × V) (q:κ × Value)=>p.1 = q.1/\RelV p.2 q.2
def kV:Key->V
 | .inl i=>.int i
 | .inr x=>.str x
inductive HO where
 | lst (xs:List V)
 | tup (xs:List V)
 | dK (kvs:List (Key × V)) | dT (kvs:List (List Key × V))
 | set (S:Int->Bool) (n:Nat)
 | ins (C dx:Addr) (fs:List (Str × V))
 | own (x:Addr)
 | xd (fs:List (Str × V))
 | met (f x:Addr)
 | rng (lo hi:Int)
 | frz (o:Obj) (u:HO)
 | tbl (ps:Array Value)
 | ext (φ:Heap->Prop)
abbrev Hp:=Addr->Option HO
def upd (H:Hp) (a:Addr) (o:HO):Hp:=fun b=>if b = a then some o else H b
theorem Bq {H:Hp} {a:Addr} {o:HO}:upd H a o a = some o:=by unfold upd; rw [if_pos rfl]
theorem Bi {H:Hp} {a b:Addr} {o:HO} (h:b ≠ a):upd H a o b = H b:=by unfold upd; rw [if_neg h]
theorem Ff {H:Hp} {a:Addr} {o u:HO}:upd (upd H a o) a u = upd H a u:=by
 funext b; unfold upd; split <;> rfl
theorem Dc {H:Hp} {a b:Addr} {o u:HO} (h:H a = some o) (h':H b = some u) (d:o ≠ u):a ≠ b:=by
 intro e; subst e; rw [h] at h'; exact d (Option.some.inj h')
theorem Br {H:Hp} {a b:Addr} {o:HO} (h:H a = some o) (h':H b = none):a ≠ b:=by
 intro e; subst e; rw [h] at h'; cases h'
section
variable (P:Program) (w:World)
def ObjOk (H:Hp) (h:Heap) (a:Addr):HO->Prop
 | .lst xs=>xs.length <= sizeLine/\∃ (its:List Value) (n:Nat),Vals xs its/\h.get? a = some { cls:=.type "list",data:=.seq its.toArray n }
 | .tup xs=>xs.length <= sizeLine/\∃ its:List Value,Vals xs its/\IsTup h a its.toArray
 | .dK kvs=>kvs.length <= sizeLine/\(a == sysModules) = false/\∃ vs,KV kvs vs/\h.DictOf (Cs P w) a vs
 | .dT kvs=>kvs.length <= sizeLine/\(a == sysModules) = false/\∃ xs:List (List Key × Addr × Value),
   Paired (fun (p:List Key × V) (q:List Key × Addr × Value)=>p.1 = q.1/\H q.2.1 = some (.tup (p.1.map kV))/\RelV p.2 q.2.2) kvs xs /\
   ∃ o es ep,h.get? a = some o/\o.ExactDict/\o.data = .dict es ep/\es.toList = xs.map (entryOfKey (tupleKind (Cs P w)))/\(xs.map (·.1)).Nodup
 | .set S n=>h.SetOf (intKind P w) a S n
 | .ins C dx fs=>H dx = some (.own a)/\fs.length <= 1000/\dx ≠ a/\h.get? a = some (PySem.W.instObj C dx) /\
   ∃ mA,h.Ns1 dx mA/\(∀ f,RelO (fs.lookup f) (mA f))/\PySem.Within mA (fs.map (·.1))
 | .own _=>∃ o,h.get? a = some o
 | .xd fs=>∃ mA,h.Ns1 a mA/\∀ f,RelO (fs.lookup f) (mA f)
 | .rng lo hi=>∃ t u v,h.get? a = some { cls:=.type "range",data:=.fields #[.int lo t,.int hi u,.int 1 v] }
 | .frz o u=>h.get? a = some o/\ObjOk H h a u
 | .tbl ps=>h.get? a = some { cls:=.none,data:=.fields ps }
 | .met f x=>h.get? a = some (PySem.W.methodObj (.ref f) (.ref x))
 | .ext φ=>φ h/\(∃ o,h.get? a = some o)/\∀ h1 h2:Heap,φ h1->(∀ o,h1.get? a = some o->h2.get? a = some o)->φ h2
def HOk (H:Hp) (h:Heap):Prop:=∀ a o,H a = some o->ObjOk P w H h a o
end
section
variable {P:Program} {w:World} {H H':Hp} {h h':Heap} {a:Addr} {o:HO}
theorem ObjOk.lt (x:ObjOk P w H h a o):a < h.objs.size:=by
 cases o with
 | lst xs=>obtain ⟨_,_,_,_,e⟩:=x; exact Heap.lt_size e
 | tup xs=>obtain ⟨_,_,_,p⟩:=x; exact p.lt
 | dK kvs=>obtain ⟨_,_,_,_,o,_,_,e,_⟩:=x; exact Heap.lt_size e
 | dT kvs=>obtain ⟨_,_,_,_,o,_,_,e,_⟩:=x; exact Heap.lt_size e
 | set S n=>obtain ⟨o,_,_,_,e,_⟩:=x; exact Heap.lt_size e
 | ins C dx fs=>obtain ⟨_,_,_,e,_⟩:=x; exact Heap.lt_size e
 | own y=>obtain ⟨_,e⟩:=x; exact Heap.lt_size e
 | xd fs=>obtain ⟨_,⟨_,_,_,e,_⟩,_⟩:=x; exact Heap.lt_size e
 | rng lo hi=>obtain ⟨_,_,_,e⟩:=x; exact Heap.lt_size e
 | frz ob u=>obtain ⟨e,_⟩:=x; exact Heap.lt_size e
 | tbl ps=>exact Heap.lt_size (show h.get? a = some _ from x)
 | met f y=>exact Heap.lt_size (show h.get? a = some _ from x)
 | ext φ=>obtain ⟨_,⟨_,e⟩,_⟩:=x; exact Heap.lt_size e
theorem Paired.mapP {α β:Type} {F G:α->β->Prop}:∀ {l₁:List α} {l₂:List β},Paired F l₁ l₂->(∀ a b,F a b->G a b)->Paired G l₁ l₂
 | _,_,.nil,_=>.nil
 | _,_,.cons r t,f=>.cons (f _ _ r) (Paired.mapP t f)
theorem ObjOk.stay (x:ObjOk P w H h a o) (k:∀ b u,(b = a\/H b = some (.own a))->h.get? b = some u->h'.get? b = some u)
  (ho:∀ b,H b = some (.own a)->H' b = some (.own a)) (ht:∀ b xs,H b = some (.tup xs)->H' b = some (.tup xs)):ObjOk P w H' h' a o:=by
 induction o with
 | lst xs=>obtain ⟨z,its,n,r,e⟩:=x; exact ⟨z,its,n,r,k _ _ (.inl rfl) e⟩
 | tup xs=>obtain ⟨z,its,r,ob,e,c⟩:=x; exact ⟨z,its,r,ob,k _ _ (.inl rfl) e,c⟩
 | dK kvs=>obtain ⟨z,y,vs,r,ob,es,ep,e,c⟩:=x; exact ⟨z,y,vs,r,ob,es,ep,k _ _ (.inl rfl) e,c⟩
 | dT kvs =>
  obtain ⟨z,y,xs,r,ob,es,ep,e,c⟩:=x
  exact ⟨z,y,xs,Paired.mapP r fun p q z=>⟨z.1,ht _ _ z.2.1,z.2.2⟩,ob,es,ep,k _ _ (.inl rfl) e,c⟩
 | set S n=>obtain ⟨ob,es,ep,t,e,c⟩:=x; exact ⟨ob,es,ep,t,k _ _ (.inl rfl) e,c⟩
 | ins C dx fs =>
  obtain ⟨d,z,ne,e,mA,⟨od,es,ep,e2,c⟩,r⟩:=x
  exact ⟨ho _ d,z,ne,k _ _ (.inl rfl) e,mA,⟨od,es,ep,k _ _ (.inr d) e2,c⟩,r⟩
 | own y=>obtain ⟨ob,e⟩:=x; exact ⟨ob,k _ _ (.inl rfl) e⟩
 | xd fs=>obtain ⟨mA,⟨od,es,ep,e,c⟩,r⟩:=x; exact ⟨mA,⟨od,es,ep,k _ _ (.inl rfl) e,c⟩,r⟩
 | rng lo hi=>obtain ⟨t,u,v,e⟩:=x; exact ⟨t,u,v,k _ _ (.inl rfl) e⟩
 | frz ob u ih=>obtain ⟨e,q⟩:=x; exact ⟨k _ _ (.inl rfl) e,ih q⟩
 | tbl ps =>
  have e:h.get? a = some { cls:=.none,data:=.fields ps }:=x
  show h'.get? a = some { cls:=.none,data:=.fields ps }
  exact k a _ (.inl rfl) e
 | met f y =>
  have e:h.get? a = some (PySem.W.methodObj (.ref f) (.ref y)):=x
  show h'.get? a = some (PySem.W.methodObj (.ref f) (.ref y))
  exact k a _ (.inl rfl) e
 | ext φ=>obtain ⟨p,⟨o,e⟩,st⟩:=x; exact ⟨st _ _ p fun o q=>k _ _ (.inl rfl) q,⟨o,k _ _ (.inl rfl) e⟩,st⟩
theorem HOk.lt (x:HOk P w H h) (e:H a = some o):a < h.objs.size:=(x a o e).lt
theorem HOk.fresh (x:HOk P w H h) (e:h.objs.size <= a):H a = none:=by
 cases q:H a with
 | none=>rfl
 | some u=>exact absurd (Nat.lt_of_lt_of_le (x.lt q) e) (Nat.lt_irrefl _)
theorem HOk.kept (x:HOk P w H h) (k:∀ b u,h.get? b = some u->h'.get? b = some u):HOk P w H h':=fun a o e =>
 (x a o e).stay (fun b u _ q=>k b u q) (fun _ q=>q) fun _ _ q=>q
theorem HOk.laid (x:HOk P w H h) (k:∀ b u,h.get? b = some u->h'.get? b = some u) (hp:h.objs.size <= a) (new:ObjOk P w (upd H a o) h' a o):HOk P w (upd H a o) h':=fun b u e=>by
 have hn:=x.fresh hp
 by_cases hb:b = a
 ·subst hb; rw [Bq] at e; cases e; exact new
 ·rw [Bi hb] at e
  exact (x b u e).stay (fun c v _ q=>k c v q) (fun c q=>by rw [Bi (Br q hn)]; exact q) fun c xs q=>by rw [Bi (Br q hn)]; exact q
end
def Rd (H:Hp) (a:Addr) (u:HO):Prop:=H a = some u\/∃ o,H a = some (.frz o u)
theorem Rd.ok {P:Program} {w:World} {H:Hp} {h:Heap} {a:Addr} {u:HO} (r:Rd H a u) (x:HOk P w H h):ObjOk P w H h a u:=by
 rcases r with r | ⟨o,r⟩
 ·exact x a u r
 ·obtain ⟨_,q⟩:=x a _ r
  exact q
def Mut:Option HO->Prop
 | some (.lst _)=>True
 | some (.dK _)=>True
 | some (.dT _)=>True
 | some (.set _ _)=>True
 | some (.ins _ _ _)=>True
 | some (.ext _)=>True
 | _=>False
section
variable {P:Program} {w:World} {H:Hp} {h h':Heap} {x e:Addr} {o':HO}
theorem HOk.write (ok:HOk P w H h) (mu:Mut (H x)) (he:e = x\/H e = some (.own x)) (k:∀ b u,b ≠ e->h.get? b = some u->h'.get? b = some u) (heo:∃ u,h'.get? e = some u)
  (new:ObjOk P w (upd H x o') h' x o'):HOk P w (upd H x o') h':=fun b u q=>by
 have nown:∀ c y,H c = some (.own y)->c ≠ x:=fun c y r z=>by subst z; rw [r] at mu; exact mu
 have ntup:∀ c xs,H c = some (.tup xs)->c ≠ x:=fun c xs r z=>by subst z; rw [r] at mu; exact mu
 by_cases hb:b = x
 ·subst hb; rw [Bq] at q; cases q; exact new
 ·rw [Bi hb] at q
  by_cases hbe:b = e
  ·have q':H b = some (.own x):=by
    rcases he with z | z
    ·exact absurd (hbe.trans z) hb
    ·rw [hbe]; exact z
   rw [q] at q'; cases q'
   obtain ⟨v,hv⟩:=heo
   exact ⟨v,by rw [hbe]; exact hv⟩
  ·refine (ok b u q).stay (fun c v hc r=>k c v ?_ r) (fun c r=>by rw [Bi (nown c b r)]; exact r) fun c xs r=>by rw [Bi (ntup c xs r)]; exact r
   rcases hc with rfl | hc
   ·exact hbe
   ·rintro rfl
    rcases he with z | z
    ·exact nown c b hc z
    ·rw [hc] at z; cases z; exact hb rfl
end
structure Un (fs ex:List Addr) (H H':Hp) (h h':Heap):Prop where
 keep:∀ b o,h.get? b = some o->H b = none->b ∉ fs->b ∉ ex->h'.get? b = some o
 slot:∀ b o,h.get? b = some o->H b = none->b ∈ fs->b ∉ ex->∃ sl,h'.get? b = some { o with slots:=sl }
 free:∀ b o,h.get? b = some o->H b = none->b ∉ ex->H' b = none
 there:∀ b o,h.get? b = some o->b ∉ ex->∃ o',h'.get? b = some o'
 tups:∀ b xs,H b = some (.tup xs)->H' b = some (.tup xs)
 frzs:∀ b o u,H b = some (.frz o u)->H' b = some (.frz o u)
 tbls:∀ b ps,H b = some (.tbl ps)->∃ more,H' b = some (.tbl (ps ++ more))
section
variable {fs fs' ex ex':List Addr} {H H1 H2:Hp} {h h1 h2 h':Heap} {a x e:Addr} {o:HO}
theorem Un.any (u:Un fs ex H H1 h h1) {b:Addr} {ob:Obj} (q:h.get? b = some ob) (n:H b = none) (hx:b ∉ ex):∃ sl,h1.get? b = some { ob with slots:=sl }:=by
 by_cases hb:b ∈ fs
 ·exact u.slot b ob q n hb hx
 ·exact ⟨ob.slots,u.keep b ob q n hb hx⟩
theorem Un.kept (k:∀ b u,h.get? b = some u->h'.get? b = some u):Un fs ex H H h h' :=
 ⟨fun b ob q _ _ _=>k b ob q,fun b ob q _ _ _=>⟨ob.slots,k b ob q⟩,fun _ _ _ n _=>n,fun b ob q _=>⟨ob,k b ob q⟩,fun _ _ q=>q,fun _ _ _ q=>q,fun _ ps q=>⟨#[],by rw [q]; simp⟩⟩
theorem Un.refl:Un fs ex H H h h:=Un.kept fun _ _ q=>q
theorem Un.laid (k:∀ b u,h.get? b = some u->h'.get? b = some u) (hp:h.objs.size <= a) (hn:H a = none):Un fs ex H (upd H a o) h h' where
 keep:=fun b u q _ _ _=>k b u q
 slot:=fun b u q _ _ _=>⟨u.slots,k b u q⟩
 free:=fun b u q n _=>by rw [Bi (Nat.ne_of_lt (Nat.lt_of_lt_of_le (Heap.lt_size q) hp))]; exact n
 there:=fun b u q _=>⟨u,k b u q⟩
 tups:=fun b xs q=>by rw [Bi (Br q hn)]; exact q
 frzs:=fun b u xs q=>by rw [Bi (Br q hn)]; exact q
 tbls:=fun b ps q=>⟨#[],by rw [Bi (Br q hn),q]; simp⟩
theorem Un.write (mu:Mut (H x)) (he:e = x\/H e = some (.own x)) (k:∀ b u,b ≠ e->h.get? b = some u->h'.get? b = some u) (heo:∃ u,h'.get? e = some u):Un fs ex H (upd H x o) h h':=by
 have hx:∀ b,H b = none->b ≠ x:=fun b n z=>by subst z; rw [n] at mu; exact mu
 have hb:∀ b,H b = none->b ≠ e:=fun b n z=>by
  subst z
  rcases he with r | r
  ·exact hx b n r
  ·rw [n] at r; cases r
 have hm:∀ b u,H b = some u->¬ Mut (some u)->b ≠ x:=fun b u q nm z=>by subst z; rw [q] at mu; exact nm mu
 refine ⟨fun b u q n _ _=>k b u (hb b n) q,fun b u q n _ _=>⟨u.slots,k b u (hb b n) q⟩,fun b u q n _=>by rw [Bi (hx b n)]; exact n,fun b u q _=>?_,
  fun b xs q=>by rw [Bi (hm b _ q fun z=>z)]; exact q,fun b u xs q=>by rw [Bi (hm b _ q fun z=>z)]; exact q,fun b ps q=>⟨#[],by rw [Bi (hm b _ q fun z=>z),q]; simp⟩⟩
 by_cases hbe:b = e
 ·subst hbe; exact heo
 ·exact ⟨u,k b u hbe q⟩
end
def trk (h:Heap) (H:Hp):List Addr:=(List.range h.objs.size).filter fun a=>(H a).isSome
def Nr (h:Heap) (H:Hp):Heap:=PySem.W.hideAll h (trk h H)
theorem Abp (h:Heap) (H:Hp):(Nr h H).objs.size = h.objs.size:=PySem.W.hideAll_size _ _
theorem AbY {h:Heap} {H:Hp} {b:Addr} {o:Obj} (e:h.get? b = some o) (n:H b = none):(Nr h H).get? b = some o :=
 PySem.W.hideAll_get _ e fun hm=>by
  have q:(H b).isSome = true:=(List.mem_filter.mp hm).2
  rw [n] at q; simp at q
theorem Aew {h:Heap} {H:Hp} {b:Addr} {o:Obj} (e:(Nr h H).get? b = some o):h.get? b = some o/\H b = none:=by
 have e':h.get? b = some o:=PySem.W.of_hideAll (trk h H) e
 refine ⟨e',?_⟩
 cases q:H b with
 | none=>rfl
 | some x =>
  have hm:b ∈ trk h H:=List.mem_filter.mpr ⟨List.mem_range.mpr (Heap.lt_size e'),by simp [q]⟩
  have z:(Nr h H).get? b = none:=PySem.W.hideAll_none (trk h H) hm
  rw [z] at e; cases e
end L2
namespace L2
open PySem PySem.Spec PyProof.Rows
structure Mod (K:PySem.W.Frag) (mg:Str->Option Value) (base:Heap):Prop where
 kin:K.In base
 glob:base.Ns mainGlobals mg
 blt:∃ mb,base.Ns builtinsNs mb/\∀ x:Str,x ≠ "__name__"->mb x = bootBuiltins x
 nolimit:base.NoLimit
structure Cx where
 prog:Program
 w:World
 K:PySem.W.Frag
 mg:Str->Option Value
 base:Heap
 A:Around
 N:List Str
 s₀:Shared
 H₀:Hp
 env:Env
 outer:List Env
 stack:List Env
 ex:List Addr
 fn:Str->Bool
 calm:Bool
 pn:List (Addr × Obj)
 xe:Value->Shared->Prop
def frs (l:List Env):List Addr:=l.filterMap (·.frame)
abbrev Cx.fs (X:Cx):List Addr:=frs X.outer
def Vis (sc:Scope) (x:Str):Prop:=sc.names.lookup x = some .local\/sc.names.lookup x = some .cell\/sc.names.lookup x = some .free
def Loc (sc:Scope) (x:Str):Prop:=sc.names.lookup x = some .local\/sc.names.lookup x = some .cell
def Aiv (env:Env) (h:Heap) (m:Str->Option Value) (x:Str) (u:Value):Prop :=
 (env.kindOf x = some .local/\m x = some u)\/((env.kindOf x = some .cell\/env.kindOf x = some .free)/\∃ c,env.cells.lookup x = some c/\h.IsCell c (some u))
structure Cx.Ok (X:Cx):Prop where
 mod:Mod X.K X.mg X.base
 kind:X.env.scope.kind = .function
 glob:X.env.globals = mainGlobals
 blt:X.env.builtins = builtinsNs
 above:X.s₀.heap.objs.size <= X.env.locals
 inj:∀ x y c,X.env.cells.lookup x = some c->X.env.cells.lookup y = some c->x = y
 has:∀ x,(X.env.kindOf x = some .cell\/X.env.kindOf x = some .free)->∃ c,X.env.cells.lookup x = some c
 cab:∀ x c,X.fn x = true->X.env.cells.lookup x = some c->X.s₀.heap.objs.size <= c
 hd:X.calm = true->X.A.handled = none
 frames:X.A.frames = some X.stack
 stk:X.stack = X.outer\/(X.stack = X.env :: X.outer/\X.env.frame = some X.env.locals)
 exf:∀ b ∈ X.ex,b ≠ X.env.locals/\∀ x c,X.env.cells.lookup x = some c->c ≠ b
 bs:∀ b o,X.base.get? b = some o->X.s₀.heap.get? b = some o/\X.H₀ b = none
 bsz:X.base.objs.size <= X.s₀.heap.objs.size
 noex:∀ b o,X.base.get? b = some o->b ∉ X.ex
 exfs:∀ b ∈ X.ex,b ∉ X.fs
 funs:X.s₀.heap.FunFrames X.base X.outer
 frf:∀ b ∈ X.fs,X.H₀ b = none
structure Inv (X:Cx) (pins:List (Addr × Obj)) (σ:List (Option V)) (H:Hp) (s:Shared):Prop where
 ok:X.Ok
 os:s.os = X.s₀.os
 bare:AllBare s.gens
 base:Un X.fs X.ex X.H₀ H X.s₀.heap s.heap
 loc:∃ m,s.heap.Ns X.env.locals m/\∀ (i:Nat) (x:Str) (v:V),X.N[i]? = some x->σ[i]? = some (some v)->Vis X.env.scope x->∃ u,RelV v u/\Aiv X.env s.heap m x u
 cell:∀ x c,X.env.cells.lookup x = some c->∃ v,s.heap.IsCell c v
 free:H X.env.locals = none
 freeC:∀ x c,X.env.cells.lookup x = some c->H c = none
 pin:∀ p ∈ X.pn ++ pins,s.heap.get? p.1 = some p.2/\H p.1 = none/\p.1 ≠ X.env.locals/\p.1 ∉ X.fs/\∀ v,p.2.data ≠ .cell v
 hok:HOk X.prog X.w H s.heap
 len:σ.length = X.N.length
section
variable {X:Cx} {pins:List (Addr × Obj)} {σ:List (Option V)} {H H':Hp} {s:Shared} {h':Heap}
theorem Cx.Ok.nofr (ok:X.Ok) {b:Addr} {o:Obj} (e:X.base.get? b = some o):b ∉ X.fs:=fun hb=>by
 have:=(ok.funs.mem hb).1
 rw [e] at this; cases this
theorem Inv.bs (I:Inv X pins σ H s):∀ b o,X.base.get? b = some o->s.heap.get? b = some o/\H b = none:=fun b o e =>
 ⟨I.base.keep b o (I.ok.bs b o e).1 (I.ok.bs b o e).2 (I.ok.nofr e) (I.ok.noex b o e),I.base.free b o (I.ok.bs b o e).1 (I.ok.bs b o e).2 (I.ok.noex b o e)⟩
theorem Inv.bk (I:Inv X pins σ H s):∀ b o,X.base.get? b = some o->s.heap.get? b = some o:=fun b o e=>(I.bs b o e).1
theorem Inv.mod (I:Inv X pins σ H s):Mod X.K X.mg X.base:=I.ok.mod
theorem Inv.kIn (I:Inv X pins σ H s):X.K.In s.heap:=I.ok.mod.kin.keeps I.bk
theorem Inv.lt (I:Inv X pins σ H s):X.env.locals < s.heap.objs.size:=let ⟨_,hn,_⟩:=I.loc; hn.lt
theorem Inv.sz (I:Inv X pins σ H s):X.s₀.heap.objs.size <= s.heap.objs.size:=Nat.le_trans I.ok.above (Nat.le_of_lt I.lt)
theorem Inv.nofs (I:Inv X pins σ H s) {a:Addr} (h:s.heap.objs.size <= a):a ∉ X.fs:=fun hb=>by
 obtain ⟨_,o,ho,_⟩:=I.ok.funs.mem hb
 exact absurd (Nat.lt_of_lt_of_le (Heap.lt_size ho) (Nat.le_trans I.sz h)) (Nat.lt_irrefl _)
theorem Inv.cne (I:Inv X pins σ H s):∀ x c,X.env.cells.lookup x = some c->c ≠ X.env.locals:=fun x c e z=>by
 obtain ⟨v,o,ho,hd⟩:=I.cell x c e
 obtain ⟨m,⟨o',es,ep,ho',hd',_⟩,_⟩:=I.loc
 rw [z,ho'] at ho; cases ho; rw [hd'] at hd; cases hd
theorem Inv.funs (I:Inv X pins σ H s):s.heap.FunFrames X.base X.outer:=by
 have all:∀ (l:List Env),(∀ b ∈ frs l,b ∈ X.fs)->X.s₀.heap.FunFrames X.base l->s.heap.FunFrames X.base l:=by
  intro l
  induction l with
  | nil=>intro _ _; trivial
  | cons env r ih =>
   intro hs hl
   obtain ⟨hk,⟨L,o,hf,hn,ho,hd⟩,hr⟩:=hl
   have hL:L ∈ X.fs:=hs L (by unfold frs; rw [List.filterMap_cons,hf]; exact List.mem_cons_self)
   obtain ⟨sl,e⟩:=I.base.slot L o ho (I.ok.frf L hL) hL fun z=>I.ok.exfs L z hL
   exact ⟨hk,⟨L,_,hf,hn,e,hd⟩,ih (fun b hb=>hs b (by unfold frs; rw [List.filterMap_cons,hf]; exact List.mem_cons_of_mem _ hb)) hr⟩
 exact all X.outer (fun _ hb=>hb) I.ok.funs
theorem Inv.stack (I:Inv X pins σ H s):s.heap.FunFrames X.base X.stack:=by
 rcases I.ok.stk with e | ⟨e,hf⟩
 ·rw [e]; exact I.funs
 ·rw [e]
  obtain ⟨m,hn,_⟩:=I.loc
  refine .cons (by rw [I.ok.kind]; decide) hf hn ?_ I.funs
  exact Heap.get?_none_of_le (Nat.le_trans I.ok.bsz I.ok.above)
theorem Inv.stkSub (I:Inv X pins σ H s):∀ b ∈ frs X.stack,b ∈ X.env.locals :: X.fs:=fun b hb=>by
 rcases I.ok.stk with e | ⟨e,hf⟩
 ·rw [e] at hb; exact List.mem_cons_of_mem _ hb
 ·rw [e] at hb
  unfold frs at hb
  rw [List.filterMap_cons,hf] at hb
  exact hb
theorem Inv.stkFree (I:Inv X pins σ H s):∀ b ∈ frs X.stack,H b = none:=fun b hb=>by
 rcases List.mem_cons.mp (I.stkSub b hb) with e | hb
 ·rw [e]; exact I.free
 ·obtain ⟨_,o,ho,_⟩:=I.ok.funs.mem hb
  exact I.base.free b o ho (I.ok.frf b hb) fun z=>I.ok.exfs b z hb
theorem Inv.step {g':Array GenState} {t':Nat} {d':Drawn} {ch:List Addr} (I:Inv X pins σ H s)
  (hch:∀ b ∈ ch,(b ∈ X.ex\/X.s₀.heap.objs.size <= b)/\b ≠ X.env.locals/\(∀ x c,X.env.cells.lookup x = some c->c ≠ b)/\∀ p ∈ X.pn ++ pins,p.1 ≠ b)
  (keep:∀ b o,b ≠ X.env.locals->b ∉ X.fs->b ∉ ch->s.heap.get? b = some o->H b = none->h'.get? b = some o)
  (slot:∀ b o,b ≠ X.env.locals->b ∈ X.fs->b ∉ ch->s.heap.get? b = some o->H b = none->∃ sl,h'.get? b = some { o with slots:=sl }) (free:∀ b o,b ∉ ch->s.heap.get? b = some o->H b = none->H' b = none)
  (there:∀ b o,b ∉ ch->s.heap.get? b = some o->∃ o',h'.get? b = some o')
  (tups:∀ b xs,H b = some (.tup xs)->H' b = some (.tup xs)) (frzs:∀ b o u,H b = some (.frz o u)->H' b = some (.frz o u)) (tbls:∀ b ps,H b = some (.tbl ps)->∃ more,H' b = some (.tbl (ps ++ more)))
  (ns:∀ m,s.heap.Ns X.env.locals m->h'.Ns X.env.locals m) (hok:HOk X.prog X.w H' h') (hg:AllBare g') :
  Inv X pins σ H' { s with heap:=h',gens:=g',drawn:=d',toks:=t' }:=by
 have neL:∀ b o,X.s₀.heap.get? b = some o->b ≠ X.env.locals:=fun b o e=>Nat.ne_of_lt (Nat.lt_of_lt_of_le (Heap.lt_size e) I.ok.above)
 have neC:∀ b o,X.s₀.heap.get? b = some o->b ∉ X.ex->b ∉ ch:=fun b o e hx hb=>by
  rcases (hch b hb).1 with z | z
  ·exact hx z
  ·exact absurd (Nat.lt_of_lt_of_le (Heap.lt_size e) z) (Nat.lt_irrefl _)
 have cellK:∀ x c,X.env.cells.lookup x = some c->∀ v,s.heap.IsCell c v->h'.IsCell c v:=fun x c e v ⟨o,ho,hd⟩=>by
  have nch:c ∉ ch:=fun z=>(hch c z).2.2.1 x c e rfl
  by_cases hc:c ∈ X.fs
  ·obtain ⟨sl,q⟩:=slot c o (I.cne x c e) hc nch ho (I.freeC x c e)
   exact ⟨_,q,hd⟩
  ·exact ⟨o,keep c o (I.cne x c e) hc nch ho (I.freeC x c e),hd⟩
 refine ⟨I.ok,I.os,hg,⟨fun b o e n hb hx=>?_,fun b o e n hb hx=>?_,fun b o e n hx=>?_,fun b o e hx=>?_,fun b xs e=>tups b xs (I.base.tups b xs e),fun b o xs e=>frzs b o xs (I.base.frzs b o xs e),fun b ps e=>?_⟩,?_,fun x c e=>?_,?_,fun x c e=>?_,fun p hp=>?_,hok,I.len⟩
 ·exact keep b o (neL b o e) hb (neC b o e hx) (I.base.keep b o e n hb hx) (I.base.free b o e n hx)
 ·obtain ⟨sl,e1⟩:=I.base.slot b o e n hb hx
  obtain ⟨sl',e2⟩:=slot b _ (neL b o e) hb (neC b o e hx) e1 (I.base.free b o e n hx)
  exact ⟨sl',e2⟩
 ·obtain ⟨o',e1⟩:=I.base.there b o e hx
  exact free b o' (neC b o e hx) e1 (I.base.free b o e n hx)
 ·obtain ⟨o',e1⟩:=I.base.there b o e hx
  exact there b o' (neC b o e hx) e1
 ·obtain ⟨m1,e1⟩:=I.base.tbls b ps e
  obtain ⟨m2,e2⟩:=tbls b _ e1
  exact ⟨m1 ++ m2,by rw [e2,Array.append_assoc]⟩
 ·obtain ⟨m,hn,hl⟩:=I.loc
  refine ⟨m,ns m hn,fun i x v e1 e2 e3=>?_⟩
  obtain ⟨u,r,l⟩:=hl i x v e1 e2 e3
  refine ⟨u,r,?_⟩
  rcases l with l | ⟨k,c,e,z⟩
  ·exact .inl l
  ·exact .inr ⟨k,c,e,cellK x c e _ z⟩
 ·obtain ⟨v,z⟩:=I.cell x c e
  exact ⟨v,cellK x c e v z⟩
 ·obtain ⟨m,⟨o,_,_,ho,_⟩,_⟩:=I.loc
  exact free _ o (fun z=>(hch _ z).2.1 rfl) ho I.free
 ·obtain ⟨v,o,ho,hd⟩:=I.cell x c e
  exact free c o (fun z=>(hch c z).2.2.1 x c e rfl) ho (I.freeC x c e)
 ·obtain ⟨e,n,ne,nf,d⟩:=I.pin p hp
  have nch:p.1 ∉ ch:=fun z=>(hch p.1 z).2.2.2 p hp rfl
  exact ⟨keep p.1 p.2 ne nf nch e n,free p.1 p.2 nch e n,ne,nf,d⟩
theorem Inv.un {t':Nat} (I:Inv X pins σ H s) (u:Un X.fs [] H H' s.heap h') (hok:HOk X.prog X.w H' h'):Inv X pins σ H' { s with heap:=h',toks:=t' }:=by
 obtain ⟨m,⟨o,es,ep,ho,r⟩,_⟩:=id I.loc
 obtain ⟨sl,hL⟩:=u.any ho I.free (by simp)
 exact I.step (g':=s.gens) (d':=s.drawn) (ch:=[]) (fun _ z=>nomatch z) (fun b o _ hb _ e n=>u.keep b o e n hb (by simp)) (fun b o _ hb _ e n=>u.slot b o e n hb (by simp)) (fun b o _ e n=>u.free b o e n (by simp)) (fun b o _ e=>u.there b o e (by simp)) u.tups u.frzs u.tbls (fun m' hm=>by
  obtain ⟨o',es',ep',ho',r'⟩:=hm
  rw [ho] at ho'; cases ho'
  exact ⟨_,es',ep',hL,r'⟩) hok I.bare
theorem Inv.call {g':Array GenState} {t':Nat} {d':Drawn} {ch:List Addr} (I:Inv X pins σ H s) (u:Un (frs X.stack) ch H H' s.heap h') (hok:HOk X.prog X.w H' h') (hg:AllBare g')
  (hch:∀ b ∈ ch,(b ∈ X.ex\/X.s₀.heap.objs.size <= b)/\b ≠ X.env.locals/\(∀ x c,X.env.cells.lookup x = some c->c ≠ b)/\∀ p ∈ X.pn ++ pins,p.1 ≠ b) :
  Inv X pins σ H' { s with heap:=h',gens:=g',drawn:=d',toks:=t' }:=by
 obtain ⟨m,⟨o,es,ep,ho,r⟩,_⟩:=id I.loc
 obtain ⟨sl,hL⟩:=u.any ho I.free fun z=>(hch _ z).2.1 rfl
 exact I.step (ch:=ch) hch (fun b o hL hb hc e n=>u.keep b o e n (fun z=>(List.mem_cons.mp (I.stkSub b z)).elim hL hb) hc) (fun b o _ _ hc e n=>u.any e n hc) (fun b o hc e n=>u.free b o e n hc) (fun b o hc e=>u.there b o e hc) u.tups u.frzs u.tbls (fun m' hm=>by
  obtain ⟨o',es',ep',ho',r'⟩:=hm
  rw [ho] at ho'; cases ho'
  exact ⟨_,es',ep',hL,r'⟩) hok hg
theorem Inv.turned {t':Nat} {it:Addr} (I:Inv X pins σ H s) (k:∀ b o,b ≠ it->s.heap.get? b = some o->h'.get? b = some o) (hn:H it = none) (hL:it ≠ X.env.locals)
  (h1:it ∈ X.ex\/X.s₀.heap.objs.size <= it) (h2:∀ x c,X.env.cells.lookup x = some c->c ≠ it) (h3:∀ p ∈ X.pn ++ pins,p.1 ≠ it):Inv X pins σ H { s with heap:=h',toks:=t' }:=by
 have nit:∀ b u,H b = some u->b ≠ it:=fun b u e z=>by rw [z,hn] at e; cases e
 refine I.step (g':=s.gens) (d':=s.drawn) (ch:=[it]) (fun b hb=>?_) (fun b o _ _ hc e _=>k b o (fun z=>hc (by simp [z])) e) (fun b o _ _ hc e _=>⟨o.slots,k b o (fun z=>hc (by simp [z])) e⟩) (fun _ _ _ _ n=>n)
  (fun b o hc e=>⟨o,k b o (fun z=>hc (by simp [z])) e⟩) (fun _ _ e=>e) (fun _ _ _ e=>e) (fun b ps e=>⟨#[],by rw [e]; simp⟩) (fun m hm=>?_) (fun b u e=>?_) I.bare
 ·have e:b = it:=by simpa using hb
  subst e
  exact ⟨h1,hL,h2,h3⟩
 ·obtain ⟨o,es,ep,ho,r⟩:=hm
  exact ⟨o,es,ep,k _ o (Ne.symm hL) ho,r⟩
 ·refine (I.hok b u e).stay (fun c v hc q=>k c v ?_ q) (fun _ q=>q) fun _ _ q=>q
  rcases hc with z | z
  ·rw [z]; exact nit b u e
  ·exact nit c _ z
theorem Inv.tok (I:Inv X pins σ H s) (t:Nat):Inv X pins σ H { s with toks:=t }:=I.un (h':=s.heap) (t':=t) Un.refl I.hok
theorem Inv.kept {t':Nat} (I:Inv X pins σ H s) (k:∀ b u,s.heap.get? b = some u->h'.get? b = some u):Inv X pins σ H { s with heap:=h',toks:=t' }:=I.un (Un.kept k) (I.hok.kept k)
theorem Inv.laid {a:Addr} {o:HO} {t':Nat} (I:Inv X pins σ H s) (k:∀ b u,s.heap.get? b = some u->h'.get? b = some u) (hp:s.heap.objs.size <= a) (new:ObjOk X.prog X.w (upd H a o) h' a o) :
  Inv X pins σ (upd H a o) { s with heap:=h',toks:=t' }:=I.un (Un.laid k hp (I.hok.fresh hp)) (I.hok.laid k hp new)
theorem Inv.write {x e:Addr} {o:HO} {t':Nat} (I:Inv X pins σ H s) (mu:Mut (H x)) (he:e = x\/H e = some (.own x)) (k:∀ b u,b ≠ e->s.heap.get? b = some u->h'.get? b = some u) (heo:∃ u,h'.get? e = some u)
  (new:ObjOk X.prog X.w (upd H x o) h' x o):Inv X pins σ (upd H x o) { s with heap:=h',toks:=t' }:=I.un (Un.write mu he k heo) (I.hok.write mu he k heo new)
theorem Inv.weak {σ':List (Option V)} (I:Inv X pins σ H s) (hl:σ'.length = σ.length) (w:∀ (i:Nat) v,σ'[i]? = some (some v)->σ[i]? = some (some v)):Inv X pins σ' H s :=
 ⟨I.ok,I.os,I.bare,I.base,let ⟨m,hn,hl'⟩:=I.loc; ⟨m,hn,fun i x v e1 e2 e3=>hl' i x v e1 (w i v e2) e3⟩,I.cell,I.free,I.freeC,I.pin,I.hok,hl.trans I.len⟩
theorem Inv.pins_of {pins':List (Addr × Obj)} (I:Inv X pins σ H s) (h:∀ p ∈ pins',s.heap.get? p.1 = some p.2/\H p.1 = none/\p.1 ≠ X.env.locals/\p.1 ∉ X.fs/\∀ v,p.2.data ≠ .cell v):Inv X pins' σ H s :=
 ⟨I.ok,I.os,I.bare,I.base,I.loc,I.cell,I.free,I.freeC,fun p hp=>(List.mem_append.mp hp).elim (fun z=>I.pin p (List.mem_append_left _ z)) (h p),I.hok,I.len⟩
theorem Wh {N:List Str} (hN:N.Nodup) {i j:Nat} {x:Str} (a:N[i]? = some x) (b:N[j]? = some x):i = j:=by
 obtain ⟨h1,e1⟩:=List.getElem?_eq_some_iff.mp a
 obtain ⟨h2,e2⟩:=List.getElem?_eq_some_iff.mp b
 exact (List.getElem_inj hN).mp (e1.trans e2.symm)
theorem Uc {M:Model} {A:Around} {E:Value->Shared->Prop} {i:Nat} {x:Str} {v:V} {u:Value} {Q:Unit->Shared->Prop} (I:Inv X pins σ H s) (hN:X.N.Nodup) (hi:X.N[i]? = some x) (hx:Loc X.env.scope x) (r:RelV v u)
  (h:∀ s',Inv X pins (σ.set i (some v)) H s'->(∃ a,Heap.SameBut a s.heap s'.heap/\(a = X.env.locals\/X.env.cells.lookup x = some a))->Q () s') (hf:X.fn x = true\/X.env.scope.names.lookup x = some .local:=by first | exact .inl rfl | exact .inr rfl | assumption):wpAny M A (storeName X.env x u) Q E s:=by
 obtain ⟨m,hn,hl⟩:=id I.loc
 have hcls:(X.env.scope.kind == .class || (X.env.scope.kind == .module && X.env.locals != X.env.globals)) = false:=by rw [I.ok.kind]; rfl
 have hiσ:i < σ.length:=by rw [I.len]; exact (List.getElem?_eq_some_iff.mp hi).1
 have cne:=I.cne
 have tracked:∀ {a:Addr} {h':Heap},(∃ o,s.heap.get? a = some o/\H a = none)->Heap.SameBut a s.heap h'->HOk X.prog X.w H h':=fun {a h'} ha hs b ob e=>by
  obtain ⟨_,_,hfree⟩:=ha
  refine (I.hok b ob e).stay (fun c w' hc q=>(hs.2 c ?_).trans q) (fun _ q=>q) fun _ _ q=>q
  rintro rfl
  rcases hc with rfl | hc
  ·rw [hfree] at e; cases e
  ·rw [hfree] at hc; cases hc
 rcases hx with hk | hk
 ·refine wpAny_storeName_local hk hn (fun h' hn' hs=>?_) hcls
  obtain ⟨oL,_,_,hoL,_⟩:=id hn
  refine h _ ⟨I.ok,I.os,I.bare,⟨fun b o e n hb hx=>?_,fun b o e n hb hx=>?_,I.base.free,fun b o e hx=>?_,I.base.tups,I.base.frzs,I.base.tbls⟩,⟨_,hn',fun j y v' e1 e2 e3=>?_⟩,fun y c e=>?_,I.free,I.freeC,fun p hp=>?_,tracked ⟨oL,hoL,I.free⟩ hs,by simpa using I.len⟩ ⟨_,hs,.inl rfl⟩
  ·exact (hs.2 b (Nat.ne_of_lt (Nat.lt_of_lt_of_le (Heap.lt_size e) I.ok.above))).trans (I.base.keep b o e n hb hx)
  ·obtain ⟨sl,e1⟩:=I.base.slot b o e n hb hx
   exact ⟨sl,(hs.2 b (Nat.ne_of_lt (Nat.lt_of_lt_of_le (Heap.lt_size e) I.ok.above))).trans e1⟩
  ·obtain ⟨o',e1⟩:=I.base.there b o e hx
   exact ⟨o',(hs.2 b (Nat.ne_of_lt (Nat.lt_of_lt_of_le (Heap.lt_size e) I.ok.above))).trans e1⟩
  ·by_cases hj:j = i
   ·subst hj
    rw [hi] at e1; cases e1
    rw [List.getElem?_set_self hiσ] at e2
    cases e2
    exact ⟨u,r,.inl ⟨hk,by simp⟩⟩
   ·rw [List.getElem?_set_ne (Ne.symm hj)] at e2
    obtain ⟨u',r',q⟩:=hl j y v' e1 e2 e3
    refine ⟨u',r',?_⟩
    rcases q with ⟨k,e⟩ | ⟨k,c,e,z⟩
    ·refine .inl ⟨k,?_⟩
     have:y ≠ x:=fun e=>hj (Wh hN e1 (e ▸ hi))
     simp [this,e]
    ·exact .inr ⟨k,c,e,z.sameBut hs (cne y c e)⟩
  ·obtain ⟨w',z⟩:=I.cell y c e
   exact ⟨w',z.sameBut hs (cne y c e)⟩
  ·obtain ⟨e,n,ne,nf,d⟩:=I.pin p hp
   exact ⟨(hs.2 p.1 ne).trans e,n,ne,nf,d⟩
 ·have hfn:X.fn x = true:=by
   rcases hf with z | z
   ·exact z
   ·rw [z] at hk; cases hk
  obtain ⟨c,hc⟩:=I.ok.has x (.inl hk)
  obtain ⟨w',z⟩:=I.cell x c hc
  refine wpAny_storeName_cell I.ok.kind hk hc z (fun h' hc' hs=>?_)
  obtain ⟨oc,hoc,hocd⟩:=id z
  refine h { s with heap:=h' } ⟨I.ok,I.os,I.bare,⟨fun b o e n hb hx=>?_,fun b o e n hb hx=>?_,I.base.free,fun b o e hx=>?_,I.base.tups,I.base.frzs,I.base.tbls⟩,⟨m,hn.sameBut hs (Ne.symm (cne x c hc)),fun j y v' e1 e2 e3=>?_⟩,fun y c' e=>?_,I.free,I.freeC,fun p hp=>?_,tracked ⟨oc,hoc,I.freeC x c hc⟩ hs,by simpa using I.len⟩ ⟨c,hs,.inr hc⟩
  ·exact (hs.2 b (Nat.ne_of_lt (Nat.lt_of_lt_of_le (Heap.lt_size e) (I.ok.cab x c hfn hc)))).trans (I.base.keep b o e n hb hx)
  ·obtain ⟨sl,e1⟩:=I.base.slot b o e n hb hx
   exact ⟨sl,(hs.2 b (Nat.ne_of_lt (Nat.lt_of_lt_of_le (Heap.lt_size e) (I.ok.cab x c hfn hc)))).trans e1⟩
  ·obtain ⟨o',e1⟩:=I.base.there b o e hx
   exact ⟨o',(hs.2 b (Nat.ne_of_lt (Nat.lt_of_lt_of_le (Heap.lt_size e) (I.ok.cab x c hfn hc)))).trans e1⟩
  ·by_cases hj:j = i
   ·subst hj
    rw [hi] at e1; cases e1
    rw [List.getElem?_set_self hiσ] at e2
    cases e2
    exact ⟨u,r,.inr ⟨.inl hk,c,hc,hc'⟩⟩
   ·rw [List.getElem?_set_ne (Ne.symm hj)] at e2
    obtain ⟨u',r',q⟩:=hl j y v' e1 e2 e3
    refine ⟨u',r',?_⟩
    rcases q with q | ⟨k,c',e,z'⟩
    ·exact .inl q
    ·refine .inr ⟨k,c',e,z'.sameBut hs ?_⟩
     rintro rfl
     exact hj (Wh hN e1 (I.ok.inj _ _ _ e hc ▸ hi))
  ·by_cases hcc:c' = c
   ·subst hcc; exact ⟨_,hc'⟩
   ·obtain ⟨w2,z2⟩:=I.cell y c' e
    exact ⟨w2,z2.sameBut hs hcc⟩
  ·obtain ⟨e,n,ne,nf,d⟩:=I.pin p hp
   refine ⟨(hs.2 p.1 ?_).trans e,n,ne,nf,d⟩
   intro q
   rw [q,hoc] at e
   have q':oc = p.2:=Option.some.inj e
   exact d w' (by rw [<- q']; exact hocd)
theorem Vt {M:Model} {A:Around} {E:Value->Shared->Prop} {i:Nat} {x:Str} {v:V} {u:Value} {Q:Unit->Shared->Prop} (I:Inv X pins σ H s) (hN:X.N.Nodup) (hi:X.N[i]? = some x) (hx:Loc X.env.scope x) (r:RelV v u)
  (h:∀ s',Inv X pins (σ.set i (some v)) H s'->Q () s') (hf:X.fn x = true\/X.env.scope.names.lookup x = some .local:=by first | exact .inl rfl | exact .inr rfl | assumption):wpAny M A (storeName X.env x u) Q E s :=
 Uc I hN hi hx r (fun s' I' _=>h s' I') hf
end
abbrev XK:=Value->Option Addr->Hp->Prop
abbrev St:=List (Option V)
abbrev VK:=V->Hp->Prop
abbrev TE:=St->Hp->VK->Prop
abbrev TT:=St->Hp->(Bool->Hp->Prop)->Prop
abbrev TA:=St->Hp->(List V->Hp->Prop)->Prop
structure Ends where
 nx:St->Hp->Prop
 rt:VK
 bk:St->Hp->Prop:=fun _ _=>False
 ct:St->Hp->Prop:=fun _ _=>False
abbrev TS:=Ends->St->Hp->Prop
def EP (X:Cx) (pins:List (Addr × Obj)) (σ:St) (Q:VK) (u:Value) (s':Shared):Prop:=∃ v H',Inv X pins σ H' s'/\RelV v u/\Q v H'
def TP (X:Cx) (pins:List (Addr × Obj)) (σ:St) (Q:Bool->Hp->Prop) (b:Bool) (s':Shared):Prop:=∃ H',Inv X pins σ H' s'/\Q b H'
def AP (X:Cx) (pins:List (Addr × Obj)) (σ:St) (Q:List V->Hp->Prop) (us:List Value) (s':Shared):Prop:=∃ vs H',Inv X pins σ H' s'/\Vals vs us/\Q vs H'
def SP (X:Cx) (pins:List (Addr × Obj)) (D:Ends) (f:Flow) (s':Shared):Prop :=
 match f with
 | .next=>∃ σ' H',Inv X pins σ' H' s'/\D.nx σ' H'
 | .brk=>∃ σ' H',Inv X pins σ' H' s'/\D.bk σ' H'
 | .cont=>∃ σ' H',Inv X pins σ' H' s'/\D.ct σ' H'
 | .ret u=>∃ v σ' H',Inv X pins σ' H' s'/\RelV v u/\D.rt v H'
def PE (X:Cx) (e:Expr) (t:TE):Prop :=
 ∀ (pins:List (Addr × Obj)) (s:Shared) (σ:St) (H:Hp) (Q:VK),Inv X pins σ H s->t σ H Q->wpAny (model X.prog X.w) X.A (eval e X.env) (EP X pins σ Q) X.xe s
def PT (X:Cx) (e:Expr) (t:TT):Prop :=
 ∀ (pins:List (Addr × Obj)) (s:Shared) (σ:St) (H:Hp) (Q:Bool->Hp->Prop),Inv X pins σ H s->t σ H Q->wpAny (model X.prog X.w) X.A (isTrue e X.env (eval e X.env)) (TP X pins σ Q) X.xe s
def PW (X:Cx) (e:Expr) (t:TT):Prop :=
 ∀ (whole:Sem Value) (pins:List (Addr × Obj)) (s:Shared) (σ:St) (H:Hp) (Q:Bool->Hp->Prop),Inv X pins σ H s->t σ H Q->wpAny (model X.prog X.w) X.A (isTrue e X.env whole) (TP X pins σ Q) X.xe s
theorem PW.pt {X:Cx} {e:Expr} {t:TT} (h:PW X e t):PT X e t:=h _
def PA (X:Cx) (es:List Expr) (t:TA):Prop :=
 ∀ (pos:Pos) (pins:List (Addr × Obj)) (s:Shared) (σ:St) (H:Hp) (Q:List V->Hp->Prop),Inv X pins σ H s->t σ H Q->wpAny (model X.prog X.w) X.A (spliced (backTo pos (starEach es X.env))) (AP X pins σ Q) X.xe s
def PS (X:Cx) (st:Stmt) (t:TS):Prop :=
 ∀ (pins:List (Addr × Obj)) (s:Shared) (σ:St) (H:Hp) (D:Ends),Inv X pins σ H s->t D σ H->wpAny (model X.prog X.w) X.A (exec st X.env) (SP X pins D) X.xe s
def PSs (X:Cx) (st:List Stmt) (t:TS):Prop :=
 ∀ (pins:List (Addr × Obj)) (s:Shared) (σ:St) (H:Hp) (D:Ends),Inv X pins σ H s->t D σ H->wpAny (model X.prog X.w) X.A (execs st X.env) (SP X pins D) X.xe s
theorem thn {α:Type} {t:Sem α} {Q Q':α->Shared->Prop} {M:Model} {A:Around} {E:Value->Shared->Prop} {s:Shared} (h:wpAny M A t Q E s) (hQ:∀ a s,Q a s->Q' a s):wpAny M A t Q' E s:=wpAny_mono h hQ fun _ _ x=>x
end L2
namespace L2
open PySem PySem.Spec PyProof.Rows
section
variable {X:Cx}
def Fq (i:Nat):TE:=fun σ H Q=>∃ v,σ[i]? = some (some v)/\Q v H
def tC (v:V):TE:=fun _ H Q=>Q v H
theorem Agl {i:Nat} {x:Str} {pos:Pos} (hN:X.N[i]? = some x) (hv:Vis X.env.scope x) (hd:(x == ("__debug__" : Str)) = false:=by decide) (hcd:(x == ("__classdict__" : Str)) = false:=by decide):PE X (.Name x pos) (Fq i):=by
 intro pins s σ H Q I h
 obtain ⟨v,e,h⟩:=h
 obtain ⟨m,hn,hl⟩:=I.loc
 obtain ⟨u,r,l⟩:=hl i x v hN e hv
 have fin:EP X pins σ Q u s:=⟨v,H,I,r,h⟩
 rcases l with ⟨hk,hm⟩ | ⟨hk,c,hc,hcell⟩
 ·exact wpAny_Name (wpAny_loadName_local I.ok.kind hk hn hm fin) hd
 ·rcases hk with hk | hk
  ·exact wpAny_Name (wpAny_loadName_cell I.ok.kind hk hc hcell fin) hd
  ·exact wpAny_Name (wpAny_loadName_free I.ok.kind hk hc hcell fin hcd) hd
theorem Be {i j pos}:PE X (.Constant (.int i) j pos) (tC (.int i)):=fun _ _ _ H _ I h=>wpAny_Constant_int ⟨.int i,H,I.tok _,⟨_,rfl⟩,h⟩
theorem Rc {b j pos}:PE X (.Constant (.bool b) j pos) (tC (.bl b)):=fun _ _ _ H _ I h=>Constant_bool ⟨.bl b,H,I,rfl,h⟩
theorem Bv {x j pos}:PE X (.Constant (.str x) j pos) (tC (.str x)):=fun _ _ _ H _ I h=>Calls.Constant_str ⟨.str x,H,I.tok _,⟨_,rfl⟩,h⟩
def Gl (X:Cx) (x:Str):Prop:=X.env.kindOf x = some .globalImplicit
theorem Tk {E:Value->Shared->Prop} {pins:List (Addr × Obj)} {s:Shared} {σ:St} {H:Hp} {x:Str} {u:Value} {pos:Pos} {Q:Value->Shared->Prop} (I:Inv X pins σ H s) (hg:Gl X x) (hm:X.mg x = some u) (h:Q u s)
  (hd:(x == ("__debug__" : Str)) = false:=by decide):wpAny (model X.prog X.w) X.A (eval (.Name x pos) X.env) Q E s :=
 Calls.Name_function_global I.ok.kind hg (Calls.loadGlobal_global (by rw [I.ok.glob]; exact I.mod.glob.keeps I.bk) hm h) hd
theorem Gw {E:Value->Shared->Prop} {pins:List (Addr × Obj)} {s:Shared} {σ:St} {H:Hp} {x:Str} {u:Value} {pos:Pos} {Q:Value->Shared->Prop} (I:Inv X pins σ H s) (hg:Gl X x) (hm:X.mg x = none) (hv:bootBuiltins x = some u) (h:Q u s)
  (hn:x ≠ "__name__":=by decide) (hd:(x == ("__debug__" : Str)) = false:=by decide):wpAny (model X.prog X.w) X.A (eval (.Name x pos) X.env) Q E s:=by
 obtain ⟨mb,h1,h2⟩:=I.mod.blt
 exact Calls.Name_function_global I.ok.kind hg (Calls.loadGlobal_builtin (by rw [I.ok.glob]; exact I.mod.glob.keeps I.bk) hm (by rw [I.ok.blt]; exact h1.keeps I.bk) ((h2 x hn).trans hv) h) hd
theorem Te {x:Str} {v:V} {u:Value} {pos:Pos} (hg:Gl X x) (hm:X.mg x = some u) (r:RelV v u) (hd:(x == ("__debug__" : Str)) = false:=by decide):PE X (.Name x pos) (tC v) :=
 fun _ _ _ H _ I h=>Tk I hg hm ⟨v,H,I,r,h⟩ hd
theorem Fw {x:Str} {v:V} {u:Value} {pos:Pos} (hg:Gl X x) (hm:X.mg x = none) (hv:bootBuiltins x = some u) (r:RelV v u) (hn:x ≠ "__name__":=by decide) (hd:(x == ("__debug__" : Str)) = false:=by decide):PE X (.Name x pos) (tC v) :=
 fun _ _ _ H _ I h=>Gw I hg hm hv ⟨v,H,I,r,h⟩ hn hd
variable {a b:Expr} {ta tb:TE} {pos:Pos}
def PC (X:Cx) (op:CmpOp) (a b:Expr) (t:TE):Prop :=
 ∀ (pins:List (Addr × Obj)) (s:Shared) (σ:St) (H:Hp) (Q:VK),Inv X pins σ H s->t σ H Q ->
  wpAny (model X.prog X.w) X.A (eval a X.env) (fun v s₁=>wpAny (model X.prog X.w) X.A (eval b X.env) (fun u s₂=>wpAny (model X.prog X.w) X.A (compareOp op v u) (EP X pins σ Q) X.xe s₂) X.xe s₁) X.xe s
def tB (t:TE):TT:=fun σ H Q=>t σ H fun x H1=>∃ c,x = .bl c/\Q c H1
theorem Ss {op:CmpOp} {t:TE} (h:PC X op a b t) (h1:behindInMarks op b = false:=by first | exact nobehind _ (by decide) (by decide) | rfl):PE X (.Compare a [op] [b] pos) t:=fun pins s σ H Q I hw=>wpAny_Compare1 (h pins s σ H Q I hw) h1
theorem Ahc {op:CmpOp} {t:TE} (h:PC X op a b t) (h1:behindInMarks op b = false:=by first | exact nobehind _ (by decide) (by decide) | rfl):PT X (.Compare a [op] [b] pos) (tB t):=by
 intro pins s σ H Q I hw
 refine wpAny_isTrue_Compare1 (thn (h pins s σ H _ I hw) fun v s1 h1=>thn h1 fun u s2 h2=>thn h2 fun c s3 ⟨x,H1,I1,r1,q1⟩=>?_) h1
 obtain ⟨d,rfl,q⟩:=q1
 cases r1
 exact wpAny_truthy_bool ⟨H1,I1,q⟩
theorem Lc {e:Expr} {t:TE} (h:PE X e t) (he:∀ whole,isTrue e X.env whole = (do let v <- whole; standAt e.pos; holding [v] (truthy v)):=by intro _; rfl):PT X e (tB t):=by
 intro pins s σ H Q I hw
 refine isTrue_plain (thn (h pins s σ H _ I hw) fun v s1 ⟨x,H1,I1,r1,q1⟩=>?_) (he _)
 obtain ⟨d,rfl,q⟩:=q1
 cases r1
 exact wpAny_truthy_bool ⟨H1,I1,q⟩
variable {tA tB':TT} {rest:List Expr}
def Agg (t u:TT):TT:=fun σ H Q=>t σ H fun c H1=>if c = true then u σ H1 Q else Q false H1
def tOr (t u:TT):TT:=fun σ H Q=>t σ H fun c H1=>if c = true then Q true H1 else u σ H1 Q
def Acz (t:TT):TT:=fun σ H Q=>t σ H fun c H1=>Q (!c) H1
theorem Xk (ha:PT X a tA):PW X (.BoolOp .And [a] pos) tA:=by
 intro wh pins s σ H Q I h
 refine isTrue_and (thn (ha pins s σ H Q I h) fun c s1 e=>?_)
 cases c with
 | true=>exact isTrue_and_nil e
 | false=>exact e
theorem Lb (ha:PT X a tA):PW X (.BoolOp .Or [a] pos) tA:=by
 intro wh pins s σ H Q I h
 refine isTrue_or (thn (ha pins s σ H Q I h) fun c s1 e=>?_)
 cases c with
 | false=>exact isTrue_or_nil e
 | true=>exact e
theorem AbN (ha:PT X a tA) (hb:PW X (.BoolOp .And (b :: rest) pos) tB'):PW X (.BoolOp .And (a :: b :: rest) pos) (Agg tA tB'):=by
 intro wh pins s σ H Q I h
 refine isTrue_and (thn (ha pins s σ H _ I h) fun c s1 ⟨H1,I1,q1⟩=>?_)
 cases c with
 | true=>exact hb wh pins s1 σ H1 Q I1 q1
 | false=>exact ⟨H1,I1,q1⟩
theorem Gc (ha:PT X a tA) (hb:PW X (.BoolOp .Or (b :: rest) pos) tB'):PW X (.BoolOp .Or (a :: b :: rest) pos) (tOr tA tB'):=by
 intro wh pins s σ H Q I h
 refine isTrue_or (thn (ha pins s σ H _ I h) fun c s1 ⟨H1,I1,q1⟩=>?_)
 cases c with
 | true=>exact ⟨H1,I1,q1⟩
 | false=>exact hb wh pins s1 σ H1 Q I1 q1
theorem Jx (ha:PT X a tA):PT X (.UnaryOp .Not a pos) (Acz tA):=by
 intro pins s σ H Q I h
 exact isTrue_not (ha pins s σ H (fun c H1=>Q (!c) H1) I h)
def Zy (ta tb:TE):TE:=fun σ H Q=>ta σ H fun x H1=>∃ c,x = .bl c/\if c = true then tb σ H1 Q else Q (.bl false) H1
def Zb (ta:TE):TE:=fun σ H Q=>ta σ H fun x H1=>∃ c,x = .bl c/\Q (.bl (!c)) H1
theorem Lx {op} {t:TE} (h:PE X a t):PE X (.BoolOp op [a] pos) t:=fun pins s σ H Q I hw=>BoolOp_one (h pins s σ H Q I hw)
theorem Ld (ha:PE X a ta) (hb:PE X (.BoolOp .And (b :: rest) pos) tb):PE X (.BoolOp .And (a :: b :: rest) pos) (Zy ta tb):=by
 intro pins s σ H Q I h
 refine BoolOp_and (thn (ha pins s σ H _ I h) fun v s1 ⟨x,H1,I1,r1,q1⟩=>?_)
 obtain ⟨c,rfl,q1⟩:=q1
 cases r1
 refine wpAny_truthy_bool ?_
 cases c with
 | true=>exact hb pins s1 σ H1 Q I1 q1
 | false=>exact ⟨.bl false,H1,I1,rfl,q1⟩
theorem Abj (ha:PE X a ta):PE X (.UnaryOp .Not a pos) (Zb ta):=by
 intro pins s σ H Q I h
 refine UnaryOp_ (thn (ha pins s σ H _ I h) fun v s1 ⟨x,H1,I1,r1,q1⟩=>?_)
 obtain ⟨c,rfl,q1⟩:=q1
 cases r1
 exact not_of (wpAny_truthy_bool ⟨.bl (!c),H1,I1,rfl,q1⟩)
end
end L2
namespace L2
open PySem PySem.Spec PyProof.Rows
def SqL (K:PySem.W.Frag) (H:Hp) (a:Addr) (xs:List V):Prop :=
 Rd H a (.lst xs) \/
  ∃ (o:Obj) (its:Array Value) (n:Nat),K.lookup a = some o/\o.cls = .type "list"/\o.dict = none/\o.data = .seq its n/\its.size <= sizeLine/\Vals xs its.toList
def SqT (K:PySem.W.Frag) (H:Hp) (a:Addr) (xs:List V):Prop :=
 Rd H a (.tup xs) \/
  ∃ (o:Obj) (its:Array Value) (n:Nat),K.lookup a = some o/\o.cls = .type "tuple"/\o.data = .seq its n/\its.size <= sizeLine/\Vals xs its.toList
def AiR:Value->Option V
 | .none=>some .non
 | .bool b=>some (.bl b)
 | .int i _=>some (.int i)
 | .str x _=>some (.str x)
 | .bytes b _=>some (.byt b)
 | .float b _=>some (.flt b)
 | .ref a=>some (.ref a)
 | .type n=>some (.ty n)
 | _=>none
theorem RelV.abs {x:V} {u:Value} (r:RelV x u):AiR u = some x:=by
 cases x with
 | non=>cases r; rfl
 | bl _=>cases r; rfl
 | int _=>obtain ⟨t,rfl⟩:=r; rfl
 | str _=>obtain ⟨t,rfl⟩:=r; rfl
 | byt _=>obtain ⟨t,rfl⟩:=r; rfl
 | flt _=>obtain ⟨t,rfl⟩:=r; rfl
 | ref _=>cases r; rfl
 | ty _=>cases r; rfl
theorem RelV.inj {x y:V} {u:Value} (r:RelV x u) (q:RelV y u):x = y:=Option.some.inj (r.abs.symm.trans q.abs)
theorem Vals.inj:∀ {xs ys:List V} {us:List Value},Vals xs us->Vals ys us->xs = ys
 | _,_,_,.nil,.nil=>rfl
 | _,_,_,.cons r t,.cons r' t'=>by rw [r.inj r',Vals.inj t t']
section
variable {X:Cx} {pins:List (Addr × Obj)} {σ:St} {H:Hp} {s:Shared} {a:Addr} {xs ys:List V}
theorem SqL.of {K:PySem.W.Frag} (h:H a = some (.lst xs)):SqL K H a xs:=.inl (.inl h)
theorem SqT.of {K:PySem.W.Frag} (h:H a = some (.tup xs)):SqT K H a xs:=.inl (.inl h)
theorem Inv.list (I:Inv X pins σ H s) (h:SqL X.K H a xs):∃ its:List Value,Vals xs its/\PlainL s.heap a its.toArray/\xs.length <= sizeLine:=by
 rcases h with h | ⟨o,its,n,hk,hc,hd,hs,hz,r⟩
 ·obtain ⟨z,its,n,r,e⟩:=h.ok I.hok
  exact ⟨its,r,⟨_,n,e,rfl,rfl,rfl⟩,z⟩
 ·refine ⟨its.toList,r,⟨o,n,I.kIn a o hk,hc,hd,by simpa using hs⟩,?_⟩
  have e:=r.length
  simp only [Array.length_toList] at e
  omega
theorem Inv.tuple (I:Inv X pins σ H s) (h:SqT X.K H a xs):∃ its:List Value,Vals xs its/\IsTup s.heap a its.toArray/\xs.length <= sizeLine:=by
 rcases h with h | ⟨o,its,n,hk,hc,hs,hz,r⟩
 ·obtain ⟨z,its,r,p⟩:=h.ok I.hok
  exact ⟨its,r,p,z⟩
 ·refine ⟨its.toList,r,⟨o,I.kIn a o hk,hc,n,by simpa using hs⟩,?_⟩
  have e:=r.length
  simp only [Array.length_toList] at e
  omega
theorem Inv.list_inj (I:Inv X pins σ H s) (h:SqL X.K H a xs) (h':SqL X.K H a ys):xs = ys:=by
 obtain ⟨its,r,⟨o,n,e,_,_,d⟩,_⟩:=I.list h
 obtain ⟨its',r',⟨o',n',e',_,_,d'⟩,_⟩:=I.list h'
 rw [e] at e'; cases e'
 rw [d] at d'
 injection d' with d1 _
 have:its = its':=by simpa using congrArg Array.toList d1
 subst this
 exact r.inj r'
end
abbrev Cx.wish (X:Cx) (E:Value->Shared->Prop):Cx:={ X with xe:=E }
abbrev Cx.nox (X:Cx):Cx:=X.wish fun _ _=>False
theorem Cx.Ok.wish {X:Cx} (ok:X.Ok) (E:Value->Shared->Prop):(X.wish E).Ok :=
 ⟨ok.mod,ok.kind,ok.glob,ok.blt,ok.above,ok.inj,ok.has,ok.cab,ok.hd,ok.frames,ok.stk,ok.exf,ok.bs,ok.bsz,ok.noex,ok.exfs,ok.funs,ok.frf⟩
theorem Cx.Ok.unwish {X:Cx} {E:Value->Shared->Prop} (ok:(X.wish E).Ok):X.Ok :=
 ⟨ok.mod,ok.kind,ok.glob,ok.blt,ok.above,ok.inj,ok.has,ok.cab,ok.hd,ok.frames,ok.stk,ok.exf,ok.bs,ok.bsz,ok.noex,ok.exfs,ok.funs,ok.frf⟩
section
variable {X:Cx} {pins:List (Addr × Obj)} {σ:St} {H:Hp} {s:Shared} {E:Value->Shared->Prop}
theorem Inv.wish (I:Inv X pins σ H s) (E:Value->Shared->Prop):Inv (X.wish E) pins σ H s:=⟨I.ok.wish E,I.os,I.bare,I.base,I.loc,I.cell,I.free,I.freeC,I.pin,I.hok,I.len⟩
theorem Inv.unwish (I:Inv (X.wish E) pins σ H s):Inv X pins σ H s:=⟨I.ok.unwish,I.os,I.bare,I.base,I.loc,I.cell,I.free,I.freeC,I.pin,I.hok,I.len⟩
theorem SP.unwish {D:Ends} {f:Flow} {s':Shared} (h:SP (X.wish E) pins D f s'):SP X pins D f s':=by
 cases f with
 | next=>obtain ⟨σ',H',I,q⟩:=h; exact ⟨σ',H',I.unwish,q⟩
 | brk=>obtain ⟨σ',H',I,q⟩:=h; exact ⟨σ',H',I.unwish,q⟩
 | cont=>obtain ⟨σ',H',I,q⟩:=h; exact ⟨σ',H',I.unwish,q⟩
 | ret u=>obtain ⟨v,σ',H',I,r,q⟩:=h; exact ⟨v,σ',H',I.unwish,r,q⟩
theorem PSs.nox {st:List Stmt} {t:TS} (h:PSs X.nox st t):PSs X st t:=fun pins s σ H D I hw =>
 wpAny_mono (h pins s σ H D (I.wish _) hw) (fun _ _ q=>q.unwish) fun _ _ z=>False.elim z
end
section
variable {X:Cx} {st:Stmt} {rest:List Stmt} {t u:TS} {e:Expr} {te:TE} {pos:Pos}
def Aah:TS:=fun D σ H=>D.nx σ H
def AbZ (t u:TS):TS:=fun D σ H=>t { D with nx:=u D } σ H
theorem Cz:PSs X [] Aah:=fun _ _ σ H _ I h=>wpAny_execs_nil ⟨σ,H,I,h⟩
theorem Bg (h1:PS X st t) (h2:PSs X rest u):PSs X (st :: rest) (AbZ t u):=by
 intro pins s σ H D I h
 refine wpAny_execs_cons (thn (h1 pins s σ H { D with nx:=u D } I h) fun f s1 q=>?_)
 cases f with
 | next =>
  obtain ⟨σ',H',I',q⟩:=q
  exact h2 pins s1 σ' H' D I' q
 | ret v=>exact q
 | brk=>exact q
 | cont=>exact q
theorem Bp (h1:PS X st t):PSs X [st] t:=by
 intro pins s σ H D I h
 refine wpAny_execs_cons (thn (h1 pins s σ H D I h) fun f s1 q=>?_)
 cases f with
 | next=>exact wpAny_execs_nil q
 | ret v=>exact q
 | brk=>exact q
 | cont=>exact q
theorem Inv.quiet {pins:List (Addr × Obj)} {σ:St} {H:Hp} {s:Shared} (I:Inv X pins σ H s):interactive X.env = false:=by simp [interactive,I.ok.kind]
def Si (te:TE):TS:=fun D σ H=>te σ H fun _ H1=>D.nx σ H1
theorem Ce (he:PE X e te) (hs:swapsWith e none pos.line X.env = pure false:=by rfl):PS X (.Expr e pos) (Si te):=by
 intro pins s σ H D I h
 exact wpAny_Expr_any (thn (he pins s σ H _ I h) fun v s1 ⟨x,H1,I1,r1,q1⟩=>⟨σ,H1,I1,q1⟩) I.quiet hs
def Vf (te:TE):TS:=fun D σ H=>te σ H D.rt
theorem Cb (he:PE X e te):PS X (.Return (some e) pos) (Vf te):=by
 intro pins s σ H D I h
 exact wpAny_Return_some (thn (he pins s σ H _ I h) fun v s1 ⟨x,H1,I1,r1,q1⟩=>⟨x,σ,H1,I1,r1,q1⟩)
def Act (c:TT) (t u:TS):TS:=fun D σ H=>c σ H fun b H1=>if b = true then t D σ H1 else u D σ H1
theorem Dp {c:Expr} {a b:List Stmt} {tc:TT} (hc:PT X c tc) (ha:PSs X a t) (hb:PSs X b u):PS X (.If c a b pos) (Act tc t u):=by
 intro pins s σ H D I h
 refine wpAny_If (thn (hc pins s σ H _ I h) fun d s1 ⟨H1,I1,q1⟩=>?_)
 cases d with
 | true=>exact ha pins s1 σ H1 D I1 q1
 | false=>exact hb pins s1 σ H1 D I1 q1
def AaE:TS:=fun _ _ _=>False
theorem Uf {sts:List Stmt}:PSs X sts AaE:=fun _ _ _ _ _ _ h=>h.elim
end
abbrev TG:=V->St->Hp->(St->Hp->Prop)->Prop
abbrev TGs:=List V->St->Hp->(St->Hp->Prop)->Prop
def PG (X:Cx) (target:Expr) (t:TG):Prop :=
 ∀ (pins:List (Addr × Obj)) (s:Shared) (σ:St) (H:Hp) (v:V) (u:Value) (Q:St->Hp->Prop),Inv X pins σ H s->RelV v u->t v σ H Q ->
  wpAny (model X.prog X.w) X.A (assign target X.env u) (fun _ s'=>∃ σ' H',Inv X pins σ' H' s'/\Q σ' H') X.xe s
def PGs (X:Cx) (ts:List Expr) (t:TGs):Prop :=
 ∀ (pins:List (Addr × Obj)) (s:Shared) (σ:St) (H:Hp) (vs:List V) (us:List Value) (Q:St->Hp->Prop),Inv X pins σ H s->Vals vs us->t vs σ H Q ->
  wpAny (model X.prog X.w) X.A (assignInOrder ((assignEach ts X.env).map (·.2)) us) (fun _ s'=>∃ σ' H',Inv X pins σ' H' s'/\Q σ' H') X.xe s
section
variable {X:Cx} {pos:Pos}
def Jd (i:Nat):TG:=fun v σ H Q=>Q (σ.set i (some v)) H
theorem Cd {i:Nat} {x:Str} (hN:X.N.Nodup) (hi:X.N[i]? = some x) (hx:Loc X.env.scope x) (hf:X.fn x = true\/X.env.scope.names.lookup x = some .local:=by first | exact .inl rfl | exact .inr rfl | assumption):PG X (.Name x pos) (Jd i):=by
 intro pins s σ H v u Q I r h
 exact wpAny_assign_Name (Vt I hN hi hx r (fun s' I'=>⟨_,H,I',h⟩) hf)
def Ach:TGs:=fun vs σ H Q=>vs = []/\Q σ H
def Zc (t:TG) (u:TGs):TGs:=fun vs σ H Q=>∃ v r,vs = v :: r/\t v σ H fun σ' H'=>u r σ' H' Q
theorem Gj:PGs X [] Ach:=by
 intro pins s σ H vs us Q I r h
 obtain ⟨e,h⟩:=h
 subst e
 cases r
 exact assignInOrder_nil ⟨σ,H,I,h⟩
theorem Ct {e:Expr} {es:List Expr} {t:TG} {u:TGs} (h1:PG X e t) (h2:PGs X es u)
  (hs:(assignEach (e :: es) X.env).map (·.2) = assign e X.env :: (assignEach es X.env).map (·.2):=by rfl):PGs X (e :: es) (Zc t u):=by
 intro pins s σ H vs us Q I r h
 obtain ⟨v,vr,e1,h⟩:=h
 subst e1
 cases r with
 | cons r rr =>
  rw [hs]
  refine assignInOrder_cons (thn (h1 pins s σ H _ _ _ I r h) fun _ s1 ⟨σ1,H1,I1,q1⟩=>?_)
  exact h2 pins s1 σ1 H1 _ _ Q I1 rr q1
def Wm (K:PySem.W.Frag) (n:Nat) (t:TGs):TG:=fun v σ H Q=>∃ a xs,v = .ref a/\SqT K H a xs/\xs.length = n/\t xs σ H Q
theorem Lg {es:List Expr} {k:Nat} {t:TGs} {n:Nat} (hc:X.calm = true) (h:PGs X es t)
  (hn:(assignEach es X.env).length = n:=by rfl) (hst:(assignEach es X.env).findIdx? (·.1) = none:=by rfl):PG X (.Tuple es k pos) (Wm X.K n t):=by
 intro pins s σ H v u Q I r hw
 obtain ⟨a,xs,e1,hq,hl,hw⟩:=hw
 subst e1
 cases r
 obtain ⟨its,rv,ht,hz⟩:=I.tuple hq
 refine assign_Tuple_tuple (I.ok.hd hc) ht (by simp [hn,<- hl,rv.length]) hst fun h' hx=>?_
 have I1:Inv X pins σ H { s with heap:=h' }:=I.kept (t':=s.toks) fun b o e=>hx b o (Nat.ne_of_lt (Heap.lt_size e)) e
 exact h pins _ σ H xs _ Q I1 (by simpa using rv) hw
def Tl (te:TE) (g:TG):TS:=fun D σ H=>te σ H fun x H1=>g x σ H1 D.nx
theorem Bz {i:Nat} {x:Str} {e:Expr} {te:TE} {pos':Pos} (hN:X.N.Nodup) (hi:X.N[i]? = some x) (hx:Loc X.env.scope x) (he:PE X e te) (hs:swapsWith e (some (.Name x pos')) pos.line X.env = pure false:=by rfl) (hf:X.fn x = true\/X.env.scope.names.lookup x = some .local:=by first | exact .inl rfl | exact .inr rfl | assumption) :
  PS X (.Assign [.Name x pos'] e pos) (Tl te (Jd i)):=by
 intro pins s σ H D I h
 refine wpAny_Assign_Name (thn (he pins s σ H _ I h) fun v s1 ⟨y,H1,I1,r1,q1⟩=>?_) hs
 exact Vt I1 hN hi hx r1 (fun s2 I2=>⟨_,H1,I2,q1⟩) hf
end
section
variable {X:Cx} {pos:Pos}
def AbB (c:TT) (tb:TS):TS:=fun D σ H=>∃ W:Nat->St->Hp->Prop,(∃ m,W m σ H)/\∀ m σ H,W m σ H ->
 c σ H fun b H1=>if b = true then ∃ N:St->Hp->Prop,(∀ σ' H',N σ' H'->∃ m',m' < m/\W m' σ' H')/\tb { D with nx:=N,ct:=N,bk:=D.nx } σ H1 else D.nx σ H1
theorem AcU {c:Expr} {body:List Stmt} {tc:TT} {tb:TS} (hp:PassesOwn (model X.prog X.w) X.A X.env X.xe) (hc:PT X c tc) (hb:PSs X body tb):PS X (.While c body [] pos) (AbB tc tb):=by
 intro pins s σ H D I h
 obtain ⟨W,⟨m0,w0⟩,turn⟩:=h
 refine wpAny_While (codeAny_whileLoop (fun n s'=>∃ σ' H',Inv X pins σ' H' s'/\W n σ' H') ?_ m0 ⟨σ,H,I,w0⟩)
 rintro n s1 ⟨σ1,H1,I1,w1⟩
 refine wpAny_passesOwn hp (thn (hc pins s1 σ1 H1 _ I1 (turn n σ1 H1 w1)) fun b s2 ⟨H2,I2,q2⟩=>?_)
 cases b with
 | true =>
  obtain ⟨N,hN,q2⟩:=q2
  rw [if_pos rfl]
  refine wpAny_passesOwn hp (thn (hb pins s2 σ1 H2 _ I2 q2) fun f s3 q3=>?_)
  cases f with
  | next =>
   obtain ⟨σ3,H3,I3,n3⟩:=q3
   obtain ⟨m',hm,w3⟩:=hN σ3 H3 n3
   exact ⟨m',hm,σ3,H3,I3,w3⟩
  | cont =>
   obtain ⟨σ3,H3,I3,n3⟩:=q3
   obtain ⟨m',hm,w3⟩:=hN σ3 H3 n3
   exact ⟨m',hm,σ3,H3,I3,w3⟩
  | brk=>exact q3
  | ret v=>exact q3
 | false =>
  rw [if_neg Bool.false_ne_true]
  exact wpAny_execs_nil ⟨σ1,H2,I2,q2⟩
end
structure It where
 go:Nat->Hp->Prop
 yld:Nat->Hp->V->Hp->Prop
 stop:Nat->Hp->Prop
def Rv (X:Cx) (pins:List (Addr × Obj)) (H:Hp) (b:Addr):Prop :=
 H b = none/\b ≠ X.env.locals/\b ∉ X.fs/\(b ∈ X.ex\/X.s₀.heap.objs.size <= b)/\(∀ x c,X.env.cells.lookup x = some c->c ≠ b)/\∀ p ∈ X.pn ++ pins,p.1 ≠ b
theorem Inv.fpOk {X:Cx} {pins:List (Addr × Obj)} {σ:St} {H H':Hp} {s:Shared} {b:Addr} (I:Inv X pins σ H s) (hb:s.heap.objs.size <= b) (hn:H' b = none):Rv X pins H' b:=by
 refine ⟨hn,Nat.ne_of_gt (Nat.lt_of_lt_of_le I.lt hb),I.nofs hb,.inr (Nat.le_trans I.sz hb),fun x c e z=>?_,fun p hp z=>?_⟩
 ·obtain ⟨v,q⟩:=I.cell x c e
  exact absurd (Nat.lt_of_lt_of_le q.lt (by rw [z]; exact hb)) (Nat.lt_irrefl _)
 ·exact absurd (Nat.lt_of_lt_of_le (Heap.lt_size (I.pin p hp).1) (by rw [z]; exact hb)) (Nat.lt_irrefl _)
structure Vs (P:Program) (w:World) (K:PySem.W.Frag) (tg:Expr) (J:It) (fp:List Addr) (it:Addr) (tn:Nat->Heap->Prop):Prop where
 mem:it ∈ fp
 obj:∀ i h,tn i h->∀ b ∈ fp,∃ o,h.get? b = some o/\∀ v,o.data ≠ .cell v
 keep:∀ i h h',tn i h->(∀ b ∈ fp,∀ o,h.get? b = some o->h'.get? b = some o)->tn i h'
 item:∀ (X:Cx),X.prog = P->X.w = w->X.K = K->X.calm = true->∀ (i:Nat) (pins:List (Addr × Obj)) (s:Shared) (σ:St) (H:Hp) (E:Value->Shared->Prop),Inv X pins σ H s->(∀ b ∈ fp,Rv X pins H b)->tn i s.heap->J.go i H ->
  wpAny (model P w) X.A (pyNext (.ref it)) (fun r s1=>∃ u,r = some u /\
   wpAny (model P w) X.A (letOwnedTupleGo tg (.ref it) u) (fun _ s2=>∃ x H',Inv X pins σ H' s2/\RelV x u/\J.yld i H x H'/\tn (i + 1) s2.heap/\∀ b ∈ fp,H' b = none) E s1) E s
 done:∀ (X:Cx),X.prog = P->X.w = w->X.K = K->X.calm = true->∀ (i:Nat) (pins:List (Addr × Obj)) (s:Shared) (σ:St) (H:Hp) (E:Value->Shared->Prop),Inv X pins σ H s->(∀ b ∈ fp,Rv X pins H b)->tn i s.heap->J.stop i H ->
  wpAny (model P w) X.A (pyNext (.ref it)) (fun r s1=>r = none/\Inv X pins σ H s1) E s
 self:∀ (A:Around) (i:Nat) (s:Shared) (Q:Value->Shared->Prop) (E:Value->Shared->Prop),tn i s.heap->Q (.ref it) s->wpAny (model P w) A (pyIter (.ref it)) Q E s
abbrev TI:=St->Hp->(It->Hp->Prop)->Prop
def PIE (X:Cx) (pins:List (Addr × Obj)) (σ:St) (tg:Expr) (R:It->Hp->Prop) (itv:Value) (s2:Shared):Prop :=
 ∃ (it:Addr) (fp:List Addr) (tn:Nat->Heap->Prop) (J:It) (H':Hp),itv = .ref it/\Inv X pins σ H' s2/\Vs X.prog X.w X.K tg J fp it tn/\tn 0 s2.heap/\(∀ b ∈ fp,Rv X pins H' b)/\R J H'
def PI (X:Cx) (tg iter:Expr) (wi:TI):Prop :=
 ∀ (pins:List (Addr × Obj)) (s:Shared) (σ:St) (H:Hp) (R:It->Hp->Prop),Inv X pins σ H s->wi σ H R ->
  wpAny (model X.prog X.w) X.A (eval iter X.env) (fun v s1=>wpAny (model X.prog X.w) X.A (pyIter v) (PIE X pins σ tg R) X.xe s1) X.xe s
theorem Yl {M:Model} {A:Around} {E:Value->Shared->Prop} {s:Shared} {tg:Expr} {it:Addr} {u:Value} {o:Obj} {n:String} {vs:Array Value} {Q:Unit->Shared->Prop} (ho:s.heap.get? it = some o) (hc:o.cls = .type n) (hd:o.data = .fields vs)
  (hn:["enumerate","zip","dict_itemiterator","dict_reverseitemiterator","odict_iterator","itertools.zip_longest","itertools.pairwise"].contains n = false) (hQ:Q () s):wpAny M A (letOwnedTupleGo tg (.ref it) u) Q E s:=by
 unfold letOwnedTupleGo
 cases tg <;> first
  | exact wpAny_pure hQ
  | (cases u <;> first
    | exact wpAny_pure hQ
    | (refine wpAny_bind (wpAny_load ho ?_); rw [hc,hd]; show wpAny M A (if (["enumerate","zip","dict_itemiterator","dict_reverseitemiterator","odict_iterator","itertools.zip_longest","itertools.pairwise"].contains n && vs[0]? == some (rawInt _)) = true then _ else _) Q E s; rw [if_neg (by intro h; rw [hn,Bool.false_and] at h; cases h)]; exact wpAny_pure hQ))
def Itl (K:PySem.W.Frag) (a:Addr):It :=
 ⟨fun i H=>∃ xs x,SqL K H a xs/\xs[i]? = some x,fun i H x H'=>H' = H/\∀ xs,SqL K H a xs->xs[i]? = some x,fun i H=>∃ xs,SqL K H a xs/\xs.length <= i⟩
def Itr (lo:Int) (n:Nat):It:=⟨fun i _=>i < n,fun i H x H'=>H' = H/\x = .int (lo + i),fun i _=>n <= i⟩
theorem Aa3 {P:Program} {w:World} {K:PySem.W.Frag} {tg:Expr} (a it:Addr):Vs P w K tg (Itl K a) [it] it (fun i h=>h.IsListIter it a i) where
 mem:=by simp
 obj:=fun i h st b hb=>by
  have e:b = it:=by simpa using hb
  subst e
  obtain ⟨o,e,c,d⟩:=st
  exact ⟨o,e,fun v z=>by rw [d] at z; cases z⟩
 keep:=fun i h h' st k=>st.at fun o e=>k it (by simp) o e
 item:=by
  intro X hP hw hK hc i pins s σ H E I hf st hg
  subst hP hw hK
  obtain ⟨xs,x,hq,hx⟩:=hg
  obtain ⟨its,rv,p,hz⟩:=I.list hq
  obtain ⟨u,hu,ru⟩:=rv.get hx
  obtain ⟨f0,f1,f2,f3,f4,f5⟩:=hf it (by simp)
  refine wpAny_pyNext_list_item st p.isList (x:=u) (by simpa using hu) fun h' st' sb=>?_
  have I1:Inv X pins σ H { s with heap:=h' }:=I.turned (t':=s.toks) (fun b o hb e=>(sb.2 b hb).trans e) f0 f1 f3 f4 f5
  obtain ⟨o,e,c,d⟩:=id st'
  exact ⟨u,rfl,Yl (s:={ s with heap:=h' }) e c d (by decide) ⟨x,H,I1,ru,⟨rfl,fun ys hy=>by rw [I.list_inj hy hq]; exact hx⟩,st',fun b hb=>(hf b hb).1⟩⟩
 done:=by
  intro X hP hw hK hc i pins s σ H E I hf st hg
  subst hP hw hK
  obtain ⟨xs,hq,hx⟩:=hg
  obtain ⟨its,rv,p,hz⟩:=I.list hq
  obtain ⟨f0,f1,f2,f3,f4,f5⟩:=hf it (by simp)
  have hl:=rv.length
  exact wpAny_pyNext_list_end (I.ok.hd hc) st p.isList (by simp; omega) fun h' eb=>⟨rfl,I.turned (t':=s.toks) (fun b o hb e=>eb b o hb e) f0 f1 f3 f4 f5⟩
 self:=fun _ _ _ _ _ st h=>wpAny_pyIter_listiter st h
theorem Yy {P:Program} {w:World} {K:PySem.W.Frag} {tg:Expr} (it:Addr) (lo:Int) (n:Nat):Vs P w K tg (Itr lo n) [it] it (fun i h=>IsRangeIter h it (lo + (i:Nat) * 1) ((n:Int) - (i:Nat)) 1) where
 mem:=by simp
 obj:=fun i h st b hb=>by
  have e:b = it:=by simpa using hb
  subst e
  exact ⟨_,st,fun v z=>by
   have z':Data.fields _ = Data.cell v:=z
   cases z'⟩
 keep:=fun i h h' st k=>k it (by simp) _ st
 item:=by
  intro X hP hw hK hc i pins s σ H E I hf st hg
  subst hP hw hK
  obtain ⟨f0,f1,f2,f3,f4,f5⟩:=hf it (by simp)
  have W:=Walks.range (prog:=X.prog) (w:=X.w) (I.ok.hd hc) it lo 1 n
  refine W.item i s _ _ hg st fun v h' tk hv st' kk=>?_
  obtain ⟨t,rfl⟩:=hv
  have I1:Inv X pins σ H { s with heap:=h',toks:=tk }:=I.turned (fun b o hb e=>kk b o (by simpa using hb) e) f0 f1 f3 f4 f5
  refine ⟨_,rfl,Yl (s:={ s with heap:=h',toks:=tk }) (n:="range_iterator") st' rfl rfl (by decide) ⟨.int (lo + i),H,I1,⟨t,?_⟩,⟨rfl,rfl⟩,st',fun b hb=>(hf b hb).1⟩⟩
  rw [Int.mul_one]
 done:=by
  intro X hP hw hK hc i pins s σ H E I hf st hg
  subst hP hw hK
  obtain ⟨f0,f1,f2,f3,f4,f5⟩:=hf it (by simp)
  exact wpAny_pyNext_range_end (I.ok.hd hc) st (by have:n <= i:=hg; omega) fun h' eb=>⟨rfl,I.turned (t':=s.toks) (fun b o hb e=>eb b o hb e) f0 f1 f3 f4 f5⟩
 self:=fun _ _ _ _ _ st h=>wpAny_pyIter_rangeiter st h
end L2
namespace L2
open PySem PySem.Spec PyProof.Rows
section
variable {X:Cx} {tg:Expr}
def Ri (K:PySem.W.Frag) (tl:TE):TI:=fun σ H R=>tl σ H fun x H1=>∃ a,x = .ref a/\(∃ xs,SqL K H1 a xs)/\R (Itl K a) H1
theorem Dr {l:Expr} {tl:TE} (hl:PE X l tl):PI X tg l (Ri X.K tl):=by
 intro pins s σ H R I h
 refine thn (hl pins s σ H _ I h) fun v s1 ⟨x,H1,I1,r1,q1⟩=>?_
 obtain ⟨a,e,⟨xs,hq⟩,q⟩:=q1
 subst e
 cases r1
 obtain ⟨its,rv,p,hz⟩:=I1.list hq
 refine wpAny_pyIter_list p.isList ?_
 refine ⟨s1.heap.objs.size,[s1.heap.objs.size],_,_,H1,rfl,I1.kept (t':=s1.toks) fun b o e=>Heap.get?_push_of_some _ e,Aa3 a _,⟨_,Heap.get?_push_size _ rfl,rfl,rfl⟩,fun b hb=>?_,q⟩
 have e:b = s1.heap.objs.size:=by simpa using hb
 subst e
 exact I1.fpOk (Nat.le_refl _) (I1.hok.fresh (Nat.le_refl _))
theorem Wb {pins:List (Addr × Obj)} {σ:St} {H:Hp} {s:Shared} {R:It->Hp->Prop} {E:Value->Shared->Prop} {lo hi:Int} {t u v:Tok} {tk:Nat} (I:Inv X pins σ H s) (h1:-(2 ^ 62) <= lo) (h2:lo < 2 ^ 62) (h3:-(2 ^ 62) <= hi) (h4:hi < 2 ^ 62)
  (q:R (Itr lo (hi - lo).toNat) H):wpAny (model X.prog X.w) X.A (pyIter (.ref s.heap.objs.size)) (PIE X pins σ tg R) E { s with heap:=s.heap.push { cls:=.type "range",data:=.fields #[.int lo t,.int hi u,.int 1 v] },toks:=tk }:=by
 refine wpAny_pyIter_range (IsRange.new ..) (small_one h1 h2 h3 h4) ?_
 have I1:Inv X pins σ H { s with heap:=s.heap.push { cls:=.type "range",data:=.fields #[.int lo t,.int hi u,.int 1 v] },toks:=tk }:=I.kept fun b o e=>Heap.get?_push_of_some _ e
 refine ⟨(s.heap.push { cls:=.type "range",data:=.fields #[.int lo t,.int hi u,.int 1 v] }).objs.size,[(s.heap.push { cls:=.type "range",data:=.fields #[.int lo t,.int hi u,.int 1 v] }).objs.size],_,_,H,rfl,
  I1.kept (t':=tk) fun b o e=>Heap.get?_push_of_some _ e,Yy _ lo (hi - lo).toNat,?_,fun b hb=>?_,q⟩
 ·have e1:lo + ((0:Nat):Int) * 1 = lo:=by simp
  have e2:(((hi - lo).toNat:Nat):Int) - ((0:Nat):Int) = Builtin.Range.rangeSize lo hi 1:=by rw [rangeSize_one]; split <;> omega
  show IsRangeIter _ _ (lo + ((0:Nat):Int) * 1) ((((hi - lo).toNat:Nat):Int) - ((0:Nat):Int)) 1
  rw [e1,e2]
  exact Heap.get?_push_size _ rfl
 ·have e:b = (s.heap.push { cls:=.type "range",data:=.fields #[.int lo t,.int hi u,.int 1 v] }).objs.size:=by simpa using hb
  subst e
  exact I1.fpOk (Nat.le_refl _) (I1.hok.fresh (Nat.le_refl _))
def Ze (ta:TA):TI:=fun σ H R=>ta σ H fun vs H1=>∃ j:Int,vs = [.int j]/\-(2 ^ 62) <= j/\j < 2 ^ 62/\R (Itr 0 j.toNat) H1
def Zv (ta:TA):TI:=fun σ H R=>ta σ H fun vs H1=>∃ i j:Int,vs = [.int i,.int j]/\(-(2 ^ 62) <= i/\i < 2 ^ 62/\-(2 ^ 62) <= j/\j < 2 ^ 62)/\R (Itr i (j - i).toNat) H1
theorem Ql {a:Expr} {ta:TA} {p pos:Pos} (hg:Gl X "range") (hm:X.mg "range" = none) (ha:PA X [a] ta) (hs:starEach [a] X.env = [(false,eval a X.env)]:=by rfl):PI X tg (.Call (.Name "range" p) [a] [] pos) (Ze ta):=by
 intro pins s σ H R I h
 refine Call_ (Gw I hg hm boot_range (PyProof.Rows.callWith_type1 (thn (ha pos pins s σ H _ I h) fun us s1 ⟨vs,H1,I1,r1,q1⟩=>?_) hs rfl))
 obtain ⟨j,e,q1,q2,q⟩:=q1
 subst e
 cases r1 with
 | cons r rr =>
  cases rr
  obtain ⟨t,rfl⟩:=r
  exact call_range_1 (Wb I1 (by omega) (by omega) q1 q2 (by simpa using q))
theorem Ub {a b:Expr} {ta:TA} {p pos:Pos} (hg:Gl X "range") (hm:X.mg "range" = none) (ha:PA X [a,b] ta) (hs:starEach [a,b] X.env = [(false,eval a X.env),(false,eval b X.env)]:=by rfl) (hs2:starEach [b] X.env = [(false,eval b X.env)]:=by rfl) :
  PI X tg (.Call (.Name "range" p) [a,b] [] pos) (Zv ta):=by
 intro pins s σ H R I h
 refine Call_ (Gw I hg hm boot_range (PyProof.Rows.callWith_type1 (thn (ha pos pins s σ H _ I h) fun us s1 ⟨vs,H1,I1,r1,q1⟩=>?_) (by rw [hs,hs2]) (by rw [hs2]; rfl)))
 obtain ⟨i,j,e,⟨q1,q2,q3,q4⟩,q⟩:=q1
 subst e
 cases r1 with
 | cons r rr =>
  cases rr with
  | cons r' rr =>
   cases rr
   obtain ⟨t,rfl⟩:=r
   obtain ⟨t',rfl⟩:=r'
   exact call_range_2 (Wb I1 q1 q2 q3 q4 q)
def Nv (wi:TI) (g:TG) (tb:TS):TS:=fun D σ H=>wi σ H fun J H1=>∃ W:Nat->Nat->St->Hp->Prop,(∃ m,W 0 m σ H1)/\∀ i m σ H,W i m σ H ->
 (J.stop i H/\D.nx σ H)\/(J.go i H/\∃ N:St->Hp->Prop,(∀ σ' H',N σ' H'->∃ m',m' < m/\W (i + 1) m' σ' H')/\∀ x H',J.yld i H x H'->g x σ H' fun σ2 H2=>tb { D with nx:=N,ct:=N,bk:=D.nx } σ2 H2)
def Qn (fp:List Addr) (h:Heap):List (Addr × Obj):=fp.filterMap fun b=>(h.get? b).map fun o=>(b,o)
theorem Jh {fp:List Addr} {h:Heap} {b:Addr} {o:Obj} (hb:b ∈ fp) (e:h.get? b = some o):(b,o) ∈ Qn fp h:=List.mem_filterMap.mpr ⟨b,hb,by rw [e]; rfl⟩
theorem AbL {fp:List Addr} {h:Heap} {p:Addr × Obj} (hp:p ∈ Qn fp h):p.1 ∈ fp/\h.get? p.1 = some p.2:=by
 obtain ⟨b,hb,e⟩:=List.mem_filterMap.mp hp
 cases q:h.get? b with
 | none=>rw [q] at e; cases e
 | some o =>
  rw [q] at e
  have e':(b,o) = p:=Option.some.inj e
  subst e'
  exact ⟨hb,q⟩
theorem Inv.pinned {pins:List (Addr × Obj)} {σ:St} {H:Hp} {s:Shared} {fp:List Addr} (I:Inv X pins σ H s) (hf:∀ b ∈ fp,Rv X pins H b) (ho:∀ b ∈ fp,∃ o,s.heap.get? b = some o/\∀ v,o.data ≠ .cell v):Inv X (pins ++ Qn fp s.heap) σ H s :=
 I.pins_of fun p hp=>(List.mem_append.mp hp).elim (fun z=>I.pin p (List.mem_append_right _ z)) fun z=>by
  obtain ⟨hb,e⟩:=AbL z
  obtain ⟨f0,f1,f2,_⟩:=hf p.1 hb
  obtain ⟨o,e',d⟩:=ho p.1 hb
  rw [e] at e'; cases e'
  exact ⟨e,f0,f1,f2,d⟩
theorem Inv.unpinned {pins pl:List (Addr × Obj)} {σ:St} {H:Hp} {s:Shared} (I:Inv X (pins ++ pl) σ H s):Inv X pins σ H s:=I.pins_of fun p hp=>I.pin p (List.mem_append_right _ (List.mem_append_left _ hp))
theorem Dn {iter:Expr} {body:List Stmt} {wi:TI} {g:TG} {tb:TS} {pos:Pos} (hp:PassesOwn (model X.prog X.w) X.A X.env X.xe) (hc:X.calm = true) (hi:PI X tg iter wi) (hg:PG X tg g) (hb:PSs X body tb)
  (hs:∀ x,foldedSetIterable iter X.env x = pure x:=by intro _; rfl):PS X (.For tg iter body [] pos) (Nv wi g tb):=by
 intro pins s σ H D I h
 refine wpAny_For (thn (hi pins s σ H _ I h) fun v s1 h1=>thn h1 fun itv s2 h2=>?_) hs
 obtain ⟨it,fp,tn,J,H2,e,I2,T,st2,f2,W,⟨m0,w0⟩,turn⟩:=h2
 subst e
 -- what stays true of the iterator's objects through the loop
 have stat:∀ {H':Hp},(∀ b ∈ fp,H' b = none)->∀ b ∈ fp,Rv X pins H' b:=fun hn b hb=>⟨hn b hb,(f2 b hb).2⟩
 refine codeAny_forLoop_any (fun n s'=>∃ i σ' H',Inv X pins σ' H' s'/\tn i s'.heap/\(∀ b ∈ fp,H' b = none)/\W i n σ' H') ?_ m0 ⟨0,σ,H2,I2,st2,fun b hb=>(f2 b hb).1,w0⟩
 rintro n s3 ⟨i,σ3,H3,I3,st3,fr3,w3⟩
 rcases turn i n σ3 H3 w3 with ⟨stop,qn⟩ | ⟨go,N,hN,step⟩
 ·refine wpAny_passesOwn hp (thn (T.done X rfl rfl rfl hc i pins s3 σ3 H3 X.xe I3 (stat fr3) st3 stop) fun r s4 ⟨hr,I4⟩=>?_)
  subst hr
  exact wpAny_execs_nil ⟨σ3,H3,I4,qn⟩
 ·refine wpAny_passesOwn hp (thn (T.item X rfl rfl rfl hc i pins s3 σ3 H3 X.xe I3 (stat fr3) st3 go) fun r s4 ⟨u,hr,h4⟩=>?_)
  subst hr
  refine wpAny_passesOwn hp (thn h4 fun _ s5 ⟨x,H5,I5,r5,y5,st5,fr5⟩=>?_)
  have I5':=I5.pinned (stat fr5) (T.obj _ _ st5)
  refine wpAny_passesOwn hp (thn (hg _ s5 σ3 H5 x u _ I5' r5 (step x H5 y5)) fun _ s6 ⟨σ6,H6,I6,q6⟩=>?_)
  refine wpAny_passesOwn hp (thn (hb _ s6 σ6 H6 _ I6 q6) fun f s7 q7=>?_)
  have again:∀ {σ7:St} {H7:Hp},Inv X (pins ++ Qn fp s5.heap) σ7 H7 s7->N σ7 H7->∃ m,m < n/\∃ i σ' H',Inv X pins σ' H' s7/\tn i s7.heap/\(∀ b ∈ fp,H' b = none)/\W i m σ' H':=fun {σ7 H7} I7 n7=>by
   obtain ⟨m',hm,w7⟩:=hN σ7 H7 n7
   refine ⟨m',hm,i + 1,σ7,H7,I7.unpinned,T.keep _ _ _ st5 fun b hb o e=>(I7.pin (b,o) (List.mem_append_right _ (List.mem_append_right _ (Jh hb e)))).1,fun b hb=>?_,w7⟩
   obtain ⟨o,e,d⟩:=T.obj _ _ st5 b hb
   exact (I7.pin (b,o) (List.mem_append_right _ (List.mem_append_right _ (Jh hb e)))).2.1
  cases f with
  | next=>obtain ⟨σ7,H7,I7,n7⟩:=q7; exact again I7 n7
  | cont=>obtain ⟨σ7,H7,I7,n7⟩:=q7; exact again I7 n7
  | brk=>obtain ⟨σ7,H7,I7,q7⟩:=q7; exact ⟨σ7,H7,I7.unpinned,q7⟩
  | ret v=>obtain ⟨x7,σ7,H7,I7,r7,q7⟩:=q7; exact ⟨x7,σ7,H7,I7.unpinned,r7,q7⟩
end
theorem Sh {K:PySem.W.Frag} {a:Addr} {xs:List V} {g:TG} {tb:TS} {D:Ends} {σ:St} {H:Hp} (Pv:Nat->St->Hp->Prop) (h0:Pv 0 σ H) (hl:∀ i σ H,i <= xs.length->Pv i σ H->SqL K H a xs)
  (hs:∀ i x σ H,xs[i]? = some x->Pv i σ H->g x σ H fun σ2 H2=>tb { D with nx:=Pv (i + 1),ct:=Pv (i + 1),bk:=D.nx } σ2 H2) (hd:∀ σ H,Pv xs.length σ H->D.nx σ H) :
  ∃ W:Nat->Nat->St->Hp->Prop,(∃ m,W 0 m σ H)/\∀ i m σ H,W i m σ H ->
   ((Itl K a).stop i H/\D.nx σ H)\/((Itl K a).go i H/\∃ N:St->Hp->Prop,(∀ σ' H',N σ' H'->∃ m',m' < m/\W (i + 1) m' σ' H')/\∀ x H',(Itl K a).yld i H x H'->g x σ H' fun σ2 H2=>tb { D with nx:=N,ct:=N,bk:=D.nx } σ2 H2):=by
 refine ⟨fun i m σ H=>m = xs.length - i/\i <= xs.length/\Pv i σ H,⟨xs.length,by simp,Nat.zero_le _,h0⟩,?_⟩
 rintro i m σ H ⟨rfl,hi,p⟩
 have q:=hl i σ H hi p
 by_cases hlt:i < xs.length
 ·refine .inr ⟨⟨xs,xs[i],q,by simp [hlt]⟩,Pv (i + 1),fun σ' H' p'=>⟨xs.length - (i + 1),by omega,rfl,hlt,p'⟩,fun x H' y=>?_⟩
  obtain ⟨e,y⟩:=y
  subst e
  exact hs i x σ _ (y xs q) p
 ·have e:i = xs.length:=by omega
  subst e
  exact .inl ⟨⟨xs,q,Nat.le_refl _⟩,hd σ H p⟩
theorem Tr {lo:Int} {n:Nat} {g:TG} {tb:TS} {D:Ends} {σ:St} {H:Hp} (Pv:Nat->St->Hp->Prop) (h0:Pv 0 σ H)
  (hs:∀ i σ H,i < n->Pv i σ H->g (.int (lo + i)) σ H fun σ2 H2=>tb { D with nx:=Pv (i + 1),ct:=Pv (i + 1),bk:=D.nx } σ2 H2) (hd:∀ σ H,Pv n σ H->D.nx σ H) :
  ∃ W:Nat->Nat->St->Hp->Prop,(∃ m,W 0 m σ H)/\∀ i m σ H,W i m σ H ->
   ((Itr lo n).stop i H/\D.nx σ H)\/((Itr lo n).go i H/\∃ N:St->Hp->Prop,(∀ σ' H',N σ' H'->∃ m',m' < m/\W (i + 1) m' σ' H')/\∀ x H',(Itr lo n).yld i H x H'->g x σ H' fun σ2 H2=>tb { D with nx:=N,ct:=N,bk:=D.nx } σ2 H2):=by
 refine ⟨fun i m σ H=>m = n - i/\i <= n/\Pv i σ H,⟨n,by simp,Nat.zero_le _,h0⟩,?_⟩
 rintro i m σ H ⟨rfl,hi,p⟩
 by_cases hlt:i < n
 ·refine .inr ⟨hlt,Pv (i + 1),fun σ' H' p'=>⟨n - (i + 1),by omega,rfl,hlt,p'⟩,fun x H' y=>?_⟩
  obtain ⟨e,y⟩:=y
  subst e y
  exact hs i σ _ hlt p
 ·have e:i = n:=by omega
  subst e
  exact .inl ⟨Nat.le_refl _,hd σ H p⟩
end L2
namespace L2
open PySem PySem.Spec PyProof.Rows
abbrev R2:=V->V->Hp->VK->Prop
def OpR (X:Cx) (f:Value->Value->Sem Value) (r:R2):Prop :=
 ∀ (pins:List (Addr × Obj)) (s:Shared) (σ:St) (H:Hp) (x y:V) (v u:Value) (Q:VK),Inv X pins σ H s->RelV x v->RelV y u->r x y H Q ->
  wpAny (model X.prog X.w) X.A (f v u) (EP X pins σ Q) X.xe s
def UnR (X:Cx) (f:Value->Sem Value) (r:V->Hp->VK->Prop):Prop :=
 ∀ (pins:List (Addr × Obj)) (s:Shared) (σ:St) (H:Hp) (x:V) (v:Value) (Q:VK),Inv X pins σ H s->RelV x v->r x H Q ->
  wpAny (model X.prog X.w) X.A (f v) (EP X pins σ Q) X.xe s
def Jk (X:Cx) (f:Value) (r:List V->Hp->VK->Prop):Prop :=
 ∀ (pins:List (Addr × Obj)) (s:Shared) (σ:St) (H:Hp) (xs:List V) (us:List Value) (Q:VK),Inv X pins σ H s->Vals xs us->r xs H Q ->
  wpAny (model X.prog X.w) X.A (call f us) (EP X pins σ Q) X.xe s
def tOp (r:R2) (ta tb:TE):TE:=fun σ H Q=>ta σ H fun x H1=>tb σ H1 fun y H2=>r x y H2 Q
def tUn (r:V->Hp->VK->Prop) (ta:TE):TE:=fun σ H Q=>ta σ H fun x H1=>r x H1 Q
def rI (C:Int->Int->Prop) (g:Int->Int->V):R2:=fun x y H Q=>∃ i j,x = .int i/\y = .int j/\C i j/\Q (g i j) H
def rI0 (g:Int->Int->V):R2:=fun x y H Q=>∃ i j,x = .int i/\y = .int j/\Q (g i j) H
def rU (g:Int->V):V->Hp->VK->Prop:=fun x H Q=>∃ i,x = .int i/\Q (g i) H
section
variable {X:Cx} {a b c:Expr} {ta tb tc:TE} {pos:Pos}
theorem Acx (ha:PE X a ta) (hb:PE X b tb) {pins:List (Addr × Obj)} {s:Shared} {σ:St} {H:Hp} {R:V->V->Hp->Prop} (I:Inv X pins σ H s)
  (h:ta σ H fun x H1=>tb σ H1 fun y H2=>R x y H2) {Q:Value->Shared->Prop} {f:Value->Value->Sem Value}
  (hf:∀ v u s2 x y H2,Inv X pins σ H2 s2->RelV x v->RelV y u->R x y H2->wpAny (model X.prog X.w) X.A (f v u) Q X.xe s2) :
  wpAny (model X.prog X.w) X.A (eval a X.env) (fun v s₁=>wpAny (model X.prog X.w) X.A (eval b X.env) (fun u s₂=>wpAny (model X.prog X.w) X.A (f v u) Q X.xe s₂) X.xe s₁) X.xe s:=by
 refine thn (ha pins s σ H _ I h) fun v s1 ⟨x,H1,I1,r1,q1⟩=>?_
 refine thn (hb pins s1 σ H1 _ I1 q1) fun u s2 ⟨y,H2,I2,r2,q2⟩=>?_
 exact hf v u s2 x y H2 I2 r1 r2 q2
theorem Cc {op:Operator} {r:R2} (ho:OpR X (binaryOp op) r) (ha:PE X a ta) (hb:PE X b tb):PE X (.BinOp a op b pos) (tOp r ta tb):=by
 intro pins s σ H Q I h
 exact wpAny_BinOp (Acx ha hb I h fun v u s2 x y H2 I2 rx ry q=>ho pins s2 σ H2 x y v u Q I2 rx ry q)
theorem Sj {op:UnaryOp} {r:V->Hp->VK->Prop} (ho:UnR X (unaryOp op) r) (ha:PE X a ta):PE X (.UnaryOp op a pos) (tUn r ta):=by
 intro pins s σ H Q I h
 exact UnaryOp_ (thn (ha pins s σ H _ I h) fun v s1 ⟨x,H1,I1,r1,q1⟩=>ho pins s1 σ H1 x v Q I1 r1 q1)
theorem opI {f:Value->Value->Sem Value} {C:Int->Int->Prop} {g:Int->Int->Int}
  (rule:∀ (i j:Int) (t u:Tok) (s:Shared) (Q:Value->Shared->Prop) (E:Value->Shared->Prop),C i j->Q (.int (g i j) s.toks) { s with toks:=s.toks + 1 }->wpAny (model X.prog X.w) X.A (f (.int i t) (.int j u)) Q E s) :
  OpR X f (rI C fun i j=>.int (g i j)):=by
 intro pins s σ H x y v u Q I rx ry h
 obtain ⟨i,j,rfl,rfl,hc,q⟩:=h
 obtain ⟨t,rfl⟩:=rx
 obtain ⟨t',rfl⟩:=ry
 exact rule i j t t' s _ _ hc ⟨.int (g i j),H,I.tok _,⟨_,rfl⟩,q⟩
theorem Afo {f:Value->Value->Sem Value} {g:Int->Int->Int}
  (rule:∀ (i j:Int) (t u:Tok) (s:Shared) (Q:Value->Shared->Prop) (E:Value->Shared->Prop),Q (.int (g i j) s.toks) { s with toks:=s.toks + 1 }->wpAny (model X.prog X.w) X.A (f (.int i t) (.int j u)) Q E s) :
  OpR X f (rI0 fun i j=>.int (g i j)):=by
 intro pins s σ H x y v u Q I rx ry h
 obtain ⟨i,j,rfl,rfl,q⟩:=h
 obtain ⟨t,rfl⟩:=rx
 obtain ⟨t',rfl⟩:=ry
 exact rule i j t t' s _ _ ⟨.int (g i j),H,I.tok _,⟨_,rfl⟩,q⟩
theorem Aac {f:Value->Value->Sem Value} {g:Int->Int->Bool}
  (rule:∀ (i j:Int) (t u:Tok) (s:Shared) (Q:Value->Shared->Prop) (E:Value->Shared->Prop),Q (.bool (g i j)) s->wpAny (model X.prog X.w) X.A (f (.int i t) (.int j u)) Q E s) :
  OpR X f (rI0 fun i j=>.bl (g i j)):=by
 intro pins s σ H x y v u Q I rx ry h
 obtain ⟨i,j,rfl,rfl,q⟩:=h
 obtain ⟨t,rfl⟩:=rx
 obtain ⟨t',rfl⟩:=ry
 exact rule i j t t' s _ _ ⟨.bl (g i j),H,I,rfl,q⟩
def Yp (i j:Int):Prop:=0 < j/\j < 1073741824
def Yz (i j:Int):Prop:=0 <= j/\j <= 1000000/\i.natAbs < 2 ^ 64
def CMul (i j:Int):Prop:=(-(2 ^ 64) < i/\i < 2 ^ 64)\/(-(2 ^ 64) < j/\j < 2 ^ 64)
theorem CMul.ok {i j:Int} (h:CMul i j):IntMulOk i j:=by
 rcases h with ⟨h1,h2⟩ | ⟨h1,h2⟩
 ·exact .of_left (intBits_le_64 h1 h2)
 ·exact .of_right (intBits_le_64 h1 h2)
theorem Dz:OpR X (binaryOp .Add) (rI0 fun i j=>.int (i + j)):=Afo fun _ _ _ _ _ _ _ q=>add_int q
theorem Qu:OpR X (binaryOp .Sub) (rI0 fun i j=>.int (i - j)):=Afo fun _ _ _ _ _ _ _ q=>sub_int q
theorem AbU:OpR X (binaryOp .Mult) (rI CMul fun i j=>.int (i * j)):=opI fun _ _ _ _ _ _ _ hc q=>mul_int q hc.ok
theorem Nd:OpR X (binaryOp .FloorDiv) (rI Yp fun i j=>.int (i / j)):=opI fun i j _ _ _ _ _ hc q=>by
 have h1:(0:Int) < j:=hc.1
 have h2:j < 1073741824:=hc.2
 exact floordiv_int (by omega) (by rw [Int.fdiv_eq_ediv_of_nonneg i (by omega)]; exact q) (.inl (PyProof.noPylong_small (by omega)))
theorem Dy:OpR X (binaryOp .Mod) (rI (fun _ j=>0 < j) fun i j=>.int (i % j)):=opI fun i j _ _ _ _ _ hc q=>by
 have h1:(0:Int) < j:=hc
 exact mod_int' (by omega) (by rw [Int.fmod_eq_emod_of_nonneg i (by omega)]; exact q)
theorem Oz:OpR X (binaryOp .Pow) (rI Yz fun i j=>.int (i ^ j.toNat)):=opI fun _ _ _ _ _ _ _ hc q=>pow_int_small hc.1 hc.2.1 hc.2.2 q
theorem unI {f:Value->Sem Value} {g:Int->Int}
  (rule:∀ (i:Int) (t:Tok) (s:Shared) (Q:Value->Shared->Prop) (E:Value->Shared->Prop),Q (.int (g i) s.toks) { s with toks:=s.toks + 1 }->wpAny (model X.prog X.w) X.A (f (.int i t)) Q E s) :
  UnR X f (rU fun i=>.int (g i)):=by
 intro pins s σ H x v Q I rx h
 obtain ⟨i,rfl,q⟩:=h
 obtain ⟨t,rfl⟩:=rx
 exact rule i t s _ _ ⟨.int (g i),H,I.tok _,⟨_,rfl⟩,q⟩
theorem Qq:UnR X (unaryOp .USub) (rU fun i=>.int (-i)):=unI fun _ _ _ _ _ q=>neg_int q
end
def Afw:V->V->Bool
 | .non,.non=>true | .non,.int _=>true | .int _,.non=>true | .non,.bl _=>true | .bl _,.non=>true | .non,.str _=>true | .str _,.non=>true
 | .int _,.int _=>true | .bl _,.bl _=>true | .str _,.str _=>true | .byt _,.byt _=>true
 | .int _,.str _=>true | .str _,.int _=>true | .bl _,.str _=>true | .str _,.bl _=>true
 | _,_=>false
def rEq:R2:=fun x y H Q=>Afw x y = true/\Q (.bl (decide (x = y))) H
def rNe:R2:=fun x y H Q=>Afw x y = true/\Q (.bl (!decide (x = y))) H
theorem Yc {i j:Int}:decide (V.int i = V.int j) = (i == j):=by
 rw [Bool.eq_iff_iff]
 simp
theorem Aao {i j:Bool}:decide (V.bl i = V.bl j) = (i == j):=by
 rw [Bool.eq_iff_iff]
 simp
theorem Xi {i j:Str}:decide (V.str i = V.str j) = (i == j):=by
 rw [Bool.eq_iff_iff]
 simp
theorem Xv {i j:Array UInt8}:decide (V.byt i = V.byt j) = (i.toList == j.toList):=by
 rw [Bool.eq_iff_iff]
 cases i
 cases j
 simp
section
variable {X:Cx} {a b c:Expr} {ta tb tc:TE} {pos:Pos}
theorem Cn {pins:List (Addr × Obj)} {σ:St} {H:Hp} {s:Shared} {Q:VK} {k k':Bool} (I:Inv X pins σ H s) (q:Q (.bl k) H) (e:k = k'):EP X pins σ Q (.bool k') s:=by
 subst e
 exact ⟨.bl k,H,I,rfl,q⟩
theorem Ga:OpR X (compareOp .Eq) rEq:=by
 intro pins s σ H x y v u Q I rx ry h
 obtain ⟨hs,q⟩:=h
 cases x with
 | non =>
  cases rx
  cases y with
  | non=>cases ry; exact PySem.EqNone.eq_none_none (Cn I q (by simp))
  | bl j=>cases ry; exact PySem.EqNone.eq_none_bool (Cn I q (by simp))
  | int j=>obtain ⟨t',rfl⟩:=ry; exact PySem.EqNone.eq_none_int (Cn I q (by simp))
  | str j=>obtain ⟨t',rfl⟩:=ry; exact PySem.EqNone.eq_none_str (Cn I q (by simp))
  | _=>exact absurd (show false = true from hs) Bool.false_ne_true
 | bl i =>
  cases rx
  cases y with
  | non=>cases ry; exact PySem.EqNone.eq_bool_none (Cn I q (by simp))
  | bl j=>cases ry; exact eq_bool (Cn I q Aao)
  | str j=>obtain ⟨t',rfl⟩:=ry; exact PySem.EqMixed.eq_bool_str (Cn I q (by simp))
  | _=>exact absurd (show false = true from hs) Bool.false_ne_true
 | int i =>
  obtain ⟨t,rfl⟩:=rx
  cases y with
  | non=>cases ry; exact PySem.EqNone.eq_int_none (Cn I q (by simp))
  | int j=>obtain ⟨t',rfl⟩:=ry; exact eq_int (Cn I q Yc)
  | str j=>obtain ⟨t',rfl⟩:=ry; exact PySem.EqMixed.eq_int_str (Cn I q (by simp))
  | _=>exact absurd (show false = true from hs) Bool.false_ne_true
 | str i =>
  obtain ⟨t,rfl⟩:=rx
  cases y with
  | non=>cases ry; exact PySem.EqNone.eq_str_none (Cn I q (by simp))
  | bl j=>cases ry; exact PySem.EqMixed.eq_str_bool (Cn I q (by simp))
  | int j=>obtain ⟨t',rfl⟩:=ry; exact PySem.EqMixed.eq_str_int (Cn I q (by simp))
  | str j=>obtain ⟨t',rfl⟩:=ry; exact eq_str (Cn I q Xi)
  | _=>exact absurd (show false = true from hs) Bool.false_ne_true
 | byt i =>
  obtain ⟨t,rfl⟩:=rx
  cases y with
  | byt j=>obtain ⟨t',rfl⟩:=ry; exact PySem.W.eq_bytes (Cn I q Xv)
  | _=>exact absurd (show false = true from hs) Bool.false_ne_true
 | _=>cases y <;> exact absurd (show false = true from hs) Bool.false_ne_true
theorem Rk:OpR X (compareOp .NotEq) rNe:=by
 intro pins s σ H x y v u Q I rx ry h
 obtain ⟨hs,q⟩:=h
 cases x with
 | non =>
  cases rx
  cases y with
  | non=>cases ry; exact PySem.EqNone.ne_none_none (Cn I q (by simp))
  | bl j=>cases ry; exact PySem.EqNone.ne_none_bool (Cn I q (by simp))
  | int j=>obtain ⟨t',rfl⟩:=ry; exact PySem.EqNone.ne_none_int (Cn I q (by simp))
  | str j=>obtain ⟨t',rfl⟩:=ry; exact PySem.EqNone.ne_none_str (Cn I q (by simp))
  | _=>exact absurd (show false = true from hs) Bool.false_ne_true
 | bl i =>
  cases rx
  cases y with
  | non=>cases ry; exact PySem.EqNone.ne_bool_none (Cn I q (by simp))
  | bl j=>cases ry; exact ne_bool (Cn I q (congrArg not Aao))
  | str j=>obtain ⟨t',rfl⟩:=ry; exact PySem.EqMixed.ne_bool_str (Cn I q (by simp))
  | _=>exact absurd (show false = true from hs) Bool.false_ne_true
 | int i =>
  obtain ⟨t,rfl⟩:=rx
  cases y with
  | non=>cases ry; exact PySem.EqNone.ne_int_none (Cn I q (by simp))
  | int j=>obtain ⟨t',rfl⟩:=ry; exact ne_int (Cn I q (congrArg not Yc))
  | str j=>obtain ⟨t',rfl⟩:=ry; exact PySem.EqMixed.ne_int_str (Cn I q (by simp))
  | _=>exact absurd (show false = true from hs) Bool.false_ne_true
 | str i =>
  obtain ⟨t,rfl⟩:=rx
  cases y with
  | non=>cases ry; exact PySem.EqNone.ne_str_none (Cn I q (by simp))
  | bl j=>cases ry; exact PySem.EqMixed.ne_str_bool (Cn I q (by simp))
  | int j=>obtain ⟨t',rfl⟩:=ry; exact PySem.EqMixed.ne_str_int (Cn I q (by simp))
  | str j=>obtain ⟨t',rfl⟩:=ry; exact ne_str (Cn I q (congrArg not Xi))
  | _=>exact absurd (show false = true from hs) Bool.false_ne_true
 | byt i =>
  obtain ⟨t,rfl⟩:=rx
  cases y with
  | byt j=>obtain ⟨t',rfl⟩:=ry; exact PySem.W.ne_bytes (Cn I q (congrArg not Xv))
  | _=>exact absurd (show false = true from hs) Bool.false_ne_true
 | _=>cases y <;> exact absurd (show false = true from hs) Bool.false_ne_true
theorem Zi:OpR X (compareOp .Lt) (rI0 fun i j=>.bl (decide (i < j))):=Aac fun _ _ _ _ _ _ _ q=>lt_int q
theorem AdU:OpR X (compareOp .LtE) (rI0 fun i j=>.bl (decide (i <= j))):=Aac fun _ _ _ _ _ _ _ q=>le_int q
theorem Ahs:OpR X (compareOp .Gt) (rI0 fun i j=>.bl (decide (j < i))):=Aac fun _ _ _ _ _ _ _ q=>gt_int q
theorem Adj:OpR X (compareOp .GtE) (rI0 fun i j=>.bl (decide (j <= i))):=Aac fun _ _ _ _ _ _ _ q=>ge_int q
theorem Ci (b:Expr) {op:CmpOp} (h:op ≠ .In:=by decide) (h2:op ≠ .NotIn:=by decide):behindInMarks op b = false:=by
 have e1:(op == CmpOp.In) = false:=by cases op <;> first | rfl | exact absurd rfl h
 have e2:(op == CmpOp.NotIn) = false:=by cases op <;> first | rfl | exact absurd rfl h2
 cases b <;> simp [behindInMarks,e1,e2]
theorem Fm {op:CmpOp} {r:R2} (ho:OpR X (compareOp op) r) (ha:PE X a ta) (hb:PE X b tb) (hm:behindInMarks op b = false):PE X (.Compare a [op] [b] pos) (tOp r ta tb):=by
 intro pins s σ H Q I h
 exact wpAny_Compare1 (Acx ha hb I h fun v u s2 x y H2 I2 rx ry q=>ho pins s2 σ H2 x y v u Q I2 rx ry q) hm
def Zo (t:TE):TT:=fun σ H Q=>t σ H fun x H'=>∃ k,x = .bl k/\Q k H'
theorem Ck {op:CmpOp} {r:R2} (ho:OpR X (compareOp op) r) (ha:PE X a ta) (hb:PE X b tb) (hm:behindInMarks op b = false):PT X (.Compare a [op] [b] pos) (Zo (tOp r ta tb)):=by
 intro pins s σ H Q I h
 refine wpAny_isTrue_Compare1 (thn (ha pins s σ H _ I h) fun v s1 ⟨x,H1,I1,r1,q1⟩=>thn (hb pins s1 σ H1 _ I1 q1) fun u s2 ⟨y,H2,I2,r2,q2⟩ =>
  thn (ho pins s2 σ H2 x y v u _ I2 r1 r2 q2) fun c s3 ⟨z,H3,I3,r3,k,e,q3⟩=>?_) hm
 subst e
 cases r3
 exact wpAny_truthy_bool ⟨H3,I3,q3⟩
theorem Vy:(sizeLine:Nat) < 2 ^ 63:=by rw [sizeLine_eq]; decide
theorem Ny {x:V} {us:List Value} (r:Vals [x] us):∃ u,us = [u]/\RelV x u:=by
 cases r with
 | cons r1 r2=>cases r2; exact ⟨_,rfl,r1⟩
theorem Ah9 {x y:V} {us:List Value} (r:Vals [x,y] us):∃ u w',us = [u,w']/\RelV x u/\RelV y w':=by
 cases r with
 | cons r1 r2 =>
  cases r2 with
  | cons r3 r4=>cases r4; exact ⟨_,_,rfl,r1,r3⟩
theorem Abr:Jk X (.type "int") (fun xs H Q=>(∃ i,xs = [.int i]/\Q (.int i) H)\/∃ k,xs = [.bl k]/\Q (.int (if k then 1 else 0)) H):=by
 intro pins s σ H xs us Q I r h
 rcases h with ⟨i,rfl,q⟩ | ⟨k,rfl,q⟩
 ·obtain ⟨u,rfl,t,rfl⟩:=Ny r
  exact call_int_int ⟨.int i,H,I,⟨_,rfl⟩,q⟩
 ·obtain ⟨u,rfl,r1⟩:=Ny r
  cases r1
  exact call_int_bool ⟨.int (if k then 1 else 0),H,I.tok _,⟨_,rfl⟩,q⟩
end
end L2
namespace L2
open PySem PySem.Spec PyProof.Rows
structure ObjM (h:Heap) (x dx C:Addr) (mA:Str->Option Value):Prop where
 obj:h.get? x = some (PySem.W.instObj C dx)
 ns:h.Ns1 dx mA
 ne:dx ≠ x
theorem AaQ {h:Heap} {dx:Addr} {mA:Str->Option Value} (n:h.Ns1 dx mA):∃ od,h.get? dx = some od/\∀ name,PySem.W.lookIn name od = some (mA name):=by
 obtain ⟨o,es,ep,ho,hd,hk,_,hm⟩:=n
 refine ⟨o,ho,fun name=>?_⟩
 have e:=hm name
 unfold nsFind findBy at e
 rw [<- Array.find?_toList] at e
 unfold PySem.W.lookIn
 rw [hd]
 dsimp only
 split
 ·rename_i y q
  rw [q] at e
  exact congrArg some e
 ·rename_i q
  rw [q] at e
  have a:es.toList.any (·.refKey) = false:=by
   rw [List.any_eq_false]
   intro y hy
   obtain ⟨z,t,hkey⟩:=hk y (Array.mem_toList_iff.mp hy)
   simp [DictEntry.refKey,hkey]
  have a':¬ es.toList.any (·.refKey) = true:=by rw [a]; exact Bool.false_ne_true
  rw [if_neg a']
  exact congrArg some e
theorem ObjM.look {h:Heap} {x dx C:Addr} {mA:Str->Option Value} (I:ObjM h x dx C mA):∃ od,PySem.W.InstAt h x (PySem.W.instObj C dx) C (some od)/\∀ name,PySem.W.lookIn name od = some (mA name) :=
 let ⟨od,ho,hl⟩:=AaQ I.ns
 ⟨od,⟨I.obj,rfl,rfl,ho⟩,hl⟩
section
variable {prog:Program} {w:World} {A:Around} {E:Value->Shared->Prop} {s:Shared} {K:PySem.W.Frag} {x dx C f:Addr} {mA:Str->Option Value} {name:Str} {v:Value}
theorem AeZ {expr:Bool} {Q:Value->Shared->Prop} (X:K.In s.heap) (I:ObjM s.heap x dx C mA) (hg:PySem.W.plainGet K C name = true) (hh:PySem.W.hasDictIn K C = true)
  (ha:PySem.W.findIn K (.ref C) name = some none) (hv:mA name = some v) (hv':PySem.W.handedIn v = true) (h:Q v { s with toks:=s.toks + 1 }) :
  wpAny (model prog w) A (getAttr (.ref x) name expr) Q E s:=by
 obtain ⟨od,J,hl⟩:=I.look
 exact PySem.W.get_value X J (PySem.W.plainGet_of hg).1 (PySem.W.findObj_own hh ha rfl (by rw [hl,hv])) hv' h
theorem Ab4 {pl:Sem Bool} {Q:Value × List Value->Shared->Prop} (X:K.In s.heap) (I:ObjM s.heap x dx C mA) (hg:PySem.W.plainGet K C name = true)
  (hf:PySem.W.findIn K (.ref C) name = some (some (.ref f))) (ht:PySem.W.isFn K (.ref f) = true) (hv:mA name = none) (h:Q (.ref f,[.ref x]) s) :
  wpAny (model prog w) A (getMethod (.ref x) name pl) Q E s:=by
 obtain ⟨od,J,hl⟩:=I.look
 exact PySem.W.method_fn X J (PySem.W.plainGet_of hg).1 (PySem.W.plainGet_of hg).2 hf (beq_iff_eq.mp ht) (by show (PySem.W.lookIn name od).map (·.isSome) = some false; rw [hl,hv]; rfl) h
theorem AeD {ns:List Str} {Q:Unit->Shared->Prop} (X:K.In s.heap) (I:ObjM s.heap x dx C mA)
  (hs:PySem.W.findIn K (.ref C) "__setattr__" = some (some (.builtin "object.__setattr__"))) (hp:PySem.W.plainOver K C = true) (ht:PySem.W.takerIn K C name = some none) (hh:PySem.W.hasDictIn K C = true)
  (hw:PySem.Within mA ns) (hsz:ns.length <= sizeLine)
  (h:∀ h',ObjM h' x dx C (fun y=>if y = name then some v else mA y)->Heap.SameBut dx s.heap h'->Q () { s with heap:=h',toks:=s.toks + 2 }) :
  wpAny (model prog w) A (setAttr (.ref x) name v) Q E s:=by
 obtain ⟨od,J,hl⟩:=I.look
 refine PySem.W.set_plain X J hs (PySem.W.osa_open (s:={ s with toks:=s.toks + 1 }) (r:=none) X J hp ht fun b=>?_)
 obtain ⟨cd,hc,hd'⟩:=PySem.W.any_some hh
 have hx:s.heap.get? x = some ⟨.ref C,some dx,.plain,#[]⟩:=I.obj
 refine wpAny_bind (wpAny_pure (wpAny_bind (wpAny_bind (wpAny_loadPart hx (wpAny_bind (PySem.W.Looks.here (s:={ s with toks:=s.toks + 1 }) (PySem.W.looks_clsIn X hc) ?_))))))
 rw [hd']
 refine wpAny_pure (a:=some dx) (wpAny_bind (wpAny_pure (wpAny_bind ?_)))
 refine wpAny_nsSet1 (s:={ s with toks:=s.toks + 1 }) I.ns fun h' hn2 hs2=>?_
 obtain ⟨oD,esD,epD,hoD,hdD,hcD⟩:=hn2.count (PySem.Within.cons name v hw)
 refine wpAny_bind (wpAny_lookBehind hoD (by rw [hdD]; exact pastItsLine_dict (Nat.le_trans hcD (by rw [List.length_cons]; omega))) ?_)
 exact wpAny_pure (h _ ⟨(hs2.2 _ (Ne.symm I.ne)).trans I.obj,hn2,I.ne⟩ hs2)
theorem Ab2 {R:Result->Shared->Prop} {vs:List Value} {kw:List (Str × Value)} (X:K.In s.heap) (hm:PySem.W.makesIn K C = true)
  (hi:PySem.W.findIn K (.ref C) "__init__" = some (some (.ref f))) (hf:PySem.W.typeIn K (.ref f) = some (.type "function"))
  (h:codeAny (model prog w) (A.under (.builtin "type.__call__" ⟨.ref C :: vs,kw⟩)) (.call (.ref f) ⟨.ref (s.heap.objs.size + 1) :: vs,kw⟩) (PySem.W.InitBack (s.heap.objs.size + 1) R)
   { s with heap:=(s.heap.push PySem.W.emptyDict).push (PySem.W.instObj C s.heap.objs.size) }) :
  codeAny (model prog w) A (.call (.ref C) ⟨vs,kw⟩) R s:=by
 obtain ⟨hh,g,d,t,os⟩:=s
 exact PySem.W.make_core (PySem.W.makes_of X hm) (PySem.W.looks_findIn X hi) (fun self=>PySem.W.bind_fn X self hf) (.inl rfl) h
end
def Bs (f:Str) (v:V):List (Str × V)->List (Str × V)
 | []=>[(f,v)]
 | (g,x) :: r=>if g = f then (g,v) :: r else (g,x) :: Bs f v r
theorem Cm (f g:Str) (v:V):∀ fs:List (Str × V),(Bs f v fs).lookup g = if g = f then some v else fs.lookup g
 | []=>by
  show List.lookup g [(f,v)] = _
  by_cases h:g = f
  ·have hb:(g == f) = true:=beq_iff_eq.mpr h
   simp only [List.lookup,hb,if_pos h]
  ·have hb:(g == f) = false:=beq_eq_false_iff_ne.mpr h
   simp only [List.lookup,hb,if_neg h]
 | (k,x) :: r=>by
  have ih:=Cm f g v r
  rw [show Bs f v ((k,x) :: r) = (if k = f then (k,v) :: r else (k,x) :: Bs f v r) from rfl]
  by_cases hk:k = f
  ·rw [if_pos hk]
   by_cases h:g = k
   ·have hb:(g == k) = true:=beq_iff_eq.mpr h
    simp only [List.lookup,hb,if_pos (h.trans hk)]
   ·have hb:(g == k) = false:=beq_eq_false_iff_ne.mpr h
    simp only [List.lookup,hb,if_neg (fun e:g = f=>h (e.trans hk.symm))]
  ·rw [if_neg hk]
   by_cases h:g = k
   ·have hb:(g == k) = true:=beq_iff_eq.mpr h
    simp only [List.lookup,hb,if_neg (fun e:g = f=>hk (h.symm.trans e))]
   ·have hb:(g == k) = false:=beq_eq_false_iff_ne.mpr h
    simp only [List.lookup,hb]
    exact ih
theorem Qx (f:Str) (v:V):∀ fs:List (Str × V),f ∈ (Bs f v fs).map (·.1)/\∀ g,g ∈ fs.map (·.1)->g ∈ (Bs f v fs).map (·.1)
 | []=>⟨by simp [Bs],fun g h=>by simp at h⟩
 | (k,x) :: r=>by
  obtain ⟨i1,i2⟩:=Qx f v r
  rw [show Bs f v ((k,x) :: r) = (if k = f then (k,v) :: r else (k,x) :: Bs f v r) from rfl]
  by_cases hk:k = f
  ·rw [if_pos hk]
   subst hk
   exact ⟨by simp,fun g h=>by simpa using h⟩
  ·rw [if_neg hk]
   refine ⟨?_,fun g h=>?_⟩
   ·rw [List.map_cons]
    exact List.mem_cons_of_mem _ i1
   ·rw [List.map_cons] at h ⊢
    rcases List.mem_cons.mp h with e | e
    ·exact List.mem_cons.mpr (.inl e)
    ·exact List.mem_cons_of_mem _ (i2 g e)
theorem Cu (f:Str) (v:V):∀ fs:List (Str × V),(Bs f v fs).length <= fs.length + 1
 | []=>by simp [Bs]
 | (k,x) :: r=>by
  have ih:=Cu f v r
  rw [show Bs f v ((k,x) :: r) = (if k = f then (k,v) :: r else (k,x) :: Bs f v r) from rfl]
  by_cases hk:k = f
  ·rw [if_pos hk,List.length_cons,List.length_cons]; omega
  ·rw [if_neg hk,List.length_cons,List.length_cons]; omega
theorem RelO.some_of {v:V} {o:Option Value} (r:RelO (some v) o):∃ u,o = some u/\RelV v u:=by
 cases o with
 | none=>exact (show False from r).elim
 | some u=>exact ⟨u,rfl,r⟩
theorem RelO.none_of {o:Option Value} (r:RelO none o):o = none:=by
 cases o with
 | none=>rfl
 | some u=>exact (show False from r).elim
theorem AaF {v:V} {u:Value} (r:RelV v u):PySem.W.handedIn u = true:=by
 cases v with
 | non=>cases (show u = Value.none from r); rfl
 | bl b=>cases (show u = Value.bool b from r); rfl
 | int i=>obtain ⟨t,e⟩:=(show ∃ t,u = Value.int i t from r); cases e; rfl
 | str x=>obtain ⟨t,e⟩:=(show ∃ t,u = Value.str x t from r); cases e; rfl
 | byt b=>obtain ⟨t,e⟩:=(show ∃ t,u = Value.bytes b t from r); cases e; rfl
 | flt b=>obtain ⟨t,e⟩:=(show ∃ t,u = Value.float b t from r); cases e; rfl
 | ref a=>cases (show u = Value.ref a from r); rfl
 | ty n=>cases (show u = Value.type n from r); rfl
section
variable {P:Program} {w:World} {H H':Hp} {h h':Heap} {a C dx:Addr} {fs fs':List (Str × V)}
theorem Rj (hok:HOk P w H h) (e:H a = some (.ins C dx fs)):∃ mA,ObjM h a dx C mA/\(∀ f,RelO (fs.lookup f) (mA f))/\PySem.Within mA (fs.map (·.1))/\fs.length <= 1000/\H dx = some (.own a):=by
 obtain ⟨d,z,ne,ob,mA,n,r,q⟩:=(show ObjOk P w H h a (.ins C dx fs) from hok a _ e)
 exact ⟨mA,⟨ob,n,ne⟩,r,q,z,d⟩
end
structure Cls (K:PySem.W.Frag) (C:Addr):Prop where
 pg:PySem.W.plainGet K C Str.empty = true
 hd:PySem.W.hasDictIn K C = true
 po:PySem.W.plainOver K C = true
 sa:PySem.W.findIn K (.ref C) "__setattr__" = some (some (.builtin "object.__setattr__"))
theorem Cls.get {K:PySem.W.Frag} {C:Addr} (c:Cls K C) (f:Str):PySem.W.plainGet K C f = true:=c.pg
def NoAttr (K:PySem.W.Frag) (C:Addr) (f:Str):Prop:=PySem.W.findIn K (.ref C) f = some none
theorem NoAttr.taker {K:PySem.W.Frag} {C:Addr} {f:Str} (n:NoAttr K C f):PySem.W.takerIn K C f = some none:=by
 unfold PySem.W.takerIn
 rw [show PySem.W.findIn K (.ref C) f = some none from n]
 rfl
structure Ab7 (K:PySem.W.Frag) (C:Addr) (m:Str) (f:Addr):Prop where
 at_:PySem.W.findIn K (.ref C) m = some (some (.ref f))
 fn:PySem.W.isFn K (.ref f) = true
 kp:PySem.W.keepIn K (.ref f) = true
section
variable {X:Cx} {pins:List (Addr × Obj)} {σ:St} {H:Hp} {s:Shared} {a C dx:Addr} {fs:List (Str × V)} {f:Str} {v:V} {A:Around} {E:Value->Shared->Prop}
theorem Zw {b:Bool} {Q:Value->Shared->Prop} (I:Inv X pins σ H s) (e:H a = some (.ins C dx fs)) (c:Cls X.K C) (n:NoAttr X.K C f) (l:fs.lookup f = some v)
  (h:∀ u s',Inv X pins σ H s'->RelV v u->Q u s'):wpAny (model X.prog X.w) A (getAttr (.ref a) f b) Q E s:=by
 obtain ⟨mA,O,r,_,_,_⟩:=Rj I.hok e
 obtain ⟨u,hu,ru⟩:=RelO.some_of (v:=v) (o:=mA f) (by rw [<- l]; exact r f)
 exact AeZ I.kIn O (c.get f) c.hd n hu (AaF ru) (h u _ (I.tok _) ru)
theorem Zt {m:Str} {g:Addr} {pl:Sem Bool} {Q:Value × List Value->Shared->Prop} (I:Inv X pins σ H s) (e:H a = some (.ins C dx fs)) (c:Cls X.K C) (k:Ab7 X.K C m g) (l:fs.lookup m = none)
  (h:Q (.ref g,[.ref a]) s):wpAny (model X.prog X.w) A (getMethod (.ref a) m pl) Q E s:=by
 obtain ⟨mA,O,r,_,_,_⟩:=Rj I.hok e
 have hn:mA m = none:=RelO.none_of (by rw [<- l]; exact r m)
 exact Ab4 I.kIn O (c.get m) k.at_ k.fn hn h
theorem Aak {y:V} {u:Value} {Q:Unit->Shared->Prop} (I:Inv X pins σ H s) (e:H a = some (.ins C dx fs)) (c:Cls X.K C) (n:NoAttr X.K C f) (hl:fs.length < 1000) (ry:RelV y u)
  (h:∀ s',Inv X pins σ (upd H a (.ins C dx (Bs f y fs))) s'->Q () s'):wpAny (model X.prog X.w) A (setAttr (.ref a) f u) Q E s:=by
 obtain ⟨mA,O,r,wi,_,ho⟩:=Rj I.hok e
 have hz:(fs.map (·.1)).length <= sizeLine:=by rw [List.length_map,sizeLine_eq]; omega
 refine AeD I.kIn O c.sa c.po n.taker c.hd wi hz fun h' O' sb=>h _ ?_
 have hd:∃ o,h'.get? dx = some o:=let ⟨o,_,_,e',_⟩:=O'.ns; ⟨o,e'⟩
 refine I.write (x:=a) (e:=dx) (by rw [e]; exact True.intro) (.inr ho) (fun b q hb z=>(sb.2 b hb).trans z) hd ?_
 refine ⟨by rw [Bi O.ne]; exact ho,?_,O.ne,O'.obj,_,O'.ns,fun g=>?_,fun g hg=>?_⟩
 ·have:=Cu f y fs; omega
 ·show RelO ((Bs f y fs).lookup g) (if g = f then some u else mA g)
  rw [Cm]
  by_cases q:g = f
  ·rw [if_pos q,if_pos q]; exact ry
  ·rw [if_neg q,if_neg q]; exact r g
 ·by_cases q:g = f
  ·rw [q]; exact (Qx f y fs).1
  ·refine (Qx f y fs).2 g (wi g fun z=>hg ?_)
   show (if g = f then some u else mA g) = none
   rw [if_neg q]; exact z
theorem Inv.made (I:Inv X pins σ H s):Inv X pins σ (upd (upd H s.heap.objs.size (.own (s.heap.objs.size + 1))) (s.heap.objs.size + 1) (.ins C s.heap.objs.size []))
  { s with heap:=(s.heap.push PySem.W.emptyDict).push (PySem.W.instObj C s.heap.objs.size) }:=by
 have e1:(s.heap.push PySem.W.emptyDict).get? s.heap.objs.size = some PySem.W.emptyDict:=Heap.get?_push_size s.heap rfl
 have e2:((s.heap.push PySem.W.emptyDict).push (PySem.W.instObj C s.heap.objs.size)).get? (s.heap.objs.size + 1) = some (PySem.W.instObj C s.heap.objs.size):=by
  have:=Heap.get?_push_size (s.heap.push PySem.W.emptyDict) (o:=PySem.W.instObj C s.heap.objs.size) rfl
  rwa [Heap.size_push] at this
 have e3:(s.heap.push PySem.W.emptyDict).Ns s.heap.objs.size (fun _=>none):=⟨PySem.W.emptyDict,#[],_,e1,rfl,(fun e he=>absurd he (by simp)),fun _=>rfl⟩
 have I1:=I.laid (a:=s.heap.objs.size) (o:=.own (s.heap.objs.size + 1)) (h':=s.heap.push PySem.W.emptyDict) (t':=s.toks) (fun b u q=>Heap.get?_push_of_some _ q) (Nat.le_refl _) ⟨_,e1⟩
 refine I1.laid (a:=s.heap.objs.size + 1) (o:=.ins C s.heap.objs.size []) (t':=s.toks) (fun b u q=>Heap.get?_push_of_some _ q) (Nat.le_of_eq (Heap.size_push _ _)) ?_
 have ne:s.heap.objs.size ≠ s.heap.objs.size + 1:=Nat.ne_of_lt (Nat.lt_succ_self _)
 refine ⟨by rw [Bi ne,Bq],Nat.zero_le _,ne,e2,fun _=>none,(Heap.Ns1.of_empty e3).at fun o q=>Heap.get?_push_of_some _ q,fun _=>True.intro,fun y hy=>absurd rfl hy⟩
theorem Ae5 {prog:Program} {w:World} {env:Env} {e:Expr} {f:Str} {pos:Pos} {s:Shared} {Q:Value->Shared->Prop} (hb:attributeBase e f env (eval e env) = eval e env)
  (h:wpAny (model prog w) A (eval e env) (fun o s₁=>wpAny (model prog w) A (getAttr o f true) Q E s₁) E s):wpAny (model prog w) A (eval (.Attribute e f pos) env) Q E s :=
 Attribute_any_ h (by rw [arm_eval_Attribute,hb])
end
def AfS (K:PySem.W.Frag) (ta:TE) (f:Str):TE:=fun σ H Q=>ta σ H fun x H1=>∃ a C dx fs v,x = .ref a/\H1 a = some (.ins C dx fs)/\Cls K C/\NoAttr K C f/\fs.lookup f = some v/\Q v H1
def AgI (K:PySem.W.Frag) (ta tv:TE) (f:Str):TS:=fun D σ H=>tv σ H fun y H1=>ta σ H1 fun x H2=>∃ a C dx fs,x = .ref a/\H2 a = some (.ins C dx fs)/\Cls K C/\NoAttr K C f/\fs.length < 1000 /\
 D.nx σ (upd H2 a (.ins C dx (Bs f y fs)))
section
variable {X:Cx} {o e value:Expr} {f:Str} {pos pos' tpos:Pos} {ta tv:TE}
theorem Wg (he:PE X e ta) (hb:attributeBase e f X.env (eval e X.env) = eval e X.env):PE X (.Attribute e f pos) (AfS X.K ta f):=by
 intro pins s σ H Q I h
 refine Ae5 hb (thn (he pins s σ H _ I h) fun u s1 ⟨x,H1,I1,rx,a,C,dx,fs,v,ex,ea,c,n,l,q⟩=>?_)
 subst ex
 obtain rfl:u = Value.ref a:=rx
 exact Zw I1 ea c n l fun u' s2 I2 ru=>⟨v,H1,I2,ru,q⟩
theorem Qv (ha:PE X o ta) (hv:PE X value tv) (hs:swapsWith value (some (.Attribute o f pos')) pos.line X.env = pure false):PS X (.Assign [.Attribute o f pos'] value pos) (AgI X.K ta tv f):=by
 intro pins s σ H D I h
 refine plainObj_wpAny_Assign_Attribute (thn (hv pins s σ H _ I h) fun u s1 ⟨y,H1,I1,ry,q⟩=>thn (ha pins s1 σ H1 _ I1 q) fun ov s2 ⟨x,H2,I2,rx,a,C,dx,fs,ex,ea,c,n,l,q2⟩=>?_) hs
 subst ex
 obtain rfl:ov = Value.ref a:=rx
 exact Aak I2 ea c n l ry fun s3 I3=>⟨σ,_,I3,q2⟩
end
section
variable {X:Cx} {pins:List (Addr × Obj)} {σ:St} {H:Hp} {s:Shared} {A:Around} {E:Value->Shared->Prop} {Q:Value->Shared->Prop} {c:Value} {b:Bool}
inductive Fb (K:PySem.W.Frag) (H:Hp):V->Value->Prop where
 | non:Fb K H .non (.type "NoneType")
 | bl (x:Bool):Fb K H (.bl x) (.type "bool")
 | int (i:Int):Fb K H (.int i) (.type "int")
 | str (x:Str):Fb K H (.str x) (.type "str")
 | flt (x:UInt64):Fb K H (.flt x) (.type "float")
 | lst {a:Addr} {xs:List V} (e:H a = some (.lst xs)):Fb K H (.ref a) (.type "list")
 | frz {a:Addr} {o:Obj} {xs:List V} (e:H a = some (.frz o (.lst xs))):Fb K H (.ref a) (.type "list")
 | tup {a:Addr} {xs:List V} (e:H a = some (.tup xs)):Fb K H (.ref a) (.type "tuple")
 | dK {a:Addr} {kvs:List (Key × V)} (e:H a = some (.dK kvs)):Fb K H (.ref a) (.type "dict")
 | dT {a:Addr} {kvs:List (List Key × V)} (e:H a = some (.dT kvs)):Fb K H (.ref a) (.type "dict")
 | ins {a C dx:Addr} {fs:List (Str × V)} (e:H a = some (.ins C dx fs)) (cl:Cls K C) (ha:PySem.W.findIn K (.ref C) "__class__" = some (some (.builtin "object.__class__")))
   (hn:PySem.W.specialIn K (.builtin "object.__class__") "__get__" = some (some (.builtin "getset_descriptor.__get__"))) (htk:PySem.W.takesIn K (.builtin "object.__class__") = some true)
   (hm:PySem.W.mroIn K C (.type "object") = some true):Fb K H (.ref a) (.ref C)
theorem AbP {x:V} {u t:Value} (I:Inv X pins σ H s) (rx:RelV x u) (ty:Fb X.K H x t) (e:PySem.W.kitOne X.K t c = some b) (h:∀ tk,Q (.bool b) { s with toks:=tk }) :
  wpAny (model X.prog X.w) A (call (.builtin "isinstance") [u,c]) Q E s:=by
 cases ty with
 | non=>cases (show u = Value.none from rx); exact PySem.W.kia_one PySem.W.kitx_none I.kIn True.intro e (fun z=>nomatch z) h
 | bl y=>cases (show u = Value.bool y from rx); exact PySem.W.kia_one PySem.W.kitx_bool I.kIn True.intro e (fun z=>nomatch z) h
 | int i=>obtain ⟨t,q⟩:=(show ∃ t,u = Value.int i t from rx); cases q; exact PySem.W.kia_one PySem.W.kitx_int I.kIn True.intro e (fun z=>nomatch z) h
 | str y=>obtain ⟨t,q⟩:=(show ∃ t,u = Value.str y t from rx); cases q; exact PySem.W.kia_one PySem.W.kitx_str I.kIn True.intro e (fun z=>nomatch z) h
 | flt y=>obtain ⟨t,q⟩:=(show ∃ t,u = Value.float y t from rx); cases q; exact PySem.W.kia_one PySem.W.kitx_float I.kIn True.intro e (fun z=>nomatch z) h
 | @lst a xs ea =>
  cases (show u = Value.ref a from rx)
  obtain ⟨_,_,n,_,h1⟩:=(show ObjOk X.prog X.w H s.heap a (.lst xs) from I.hok a _ ea)
  exact PySem.W.kia_one PySem.W.kitx_list I.kIn ⟨_,h1,rfl⟩ e (fun z=>nomatch z) h
 | @frz a ob xs ea =>
  cases (show u = Value.ref a from rx)
  obtain ⟨_,_,_,n,_,h1⟩:=(show ObjOk X.prog X.w H s.heap a (.frz ob (.lst xs)) from I.hok a _ ea)
  exact PySem.W.kia_one PySem.W.kitx_list I.kIn ⟨_,h1,rfl⟩ e (fun z=>nomatch z) h
 | @tup a xs ea =>
  cases (show u = Value.ref a from rx)
  obtain ⟨_,_,_,p⟩:=(show ObjOk X.prog X.w H s.heap a (.tup xs) from I.hok a _ ea)
  obtain ⟨o,h1,h2,_⟩:=p
  exact PySem.W.kia_one PySem.W.kitx_tuple I.kIn ⟨o,h1,h2⟩ e (fun z=>nomatch z) h
 | @dK a kvs ea =>
  cases (show u = Value.ref a from rx)
  obtain ⟨_,_,vs,_,p⟩:=(show ObjOk X.prog X.w H s.heap a (.dK kvs) from I.hok a _ ea)
  obtain ⟨o,es,ep,h1,h2,_⟩:=p
  exact PySem.W.kia_one PySem.W.kitx_dict I.kIn ⟨o,h1,h2.1⟩ e (fun z=>nomatch z) h
 | @dT a kvs ea =>
  cases (show u = Value.ref a from rx)
  obtain ⟨_,_,xs,_,o,es,ep,h1,h2,_⟩:=(show ObjOk X.prog X.w H s.heap a (.dT kvs) from I.hok a _ ea)
  exact PySem.W.kia_one PySem.W.kitx_dict I.kIn ⟨o,h1,h2.1⟩ e (fun z=>nomatch z) h
 | @ins a C dx fs ea cl ha hn htk hm =>
  cases (show u = Value.ref a from rx)
  obtain ⟨mA,O,_⟩:=Rj I.hok ea
  obtain ⟨od,J,_⟩:=O.look
  exact PySem.W.kia_one (PySem.W.kitx_own (cl.get _) cl.hd ha hn htk hm) I.kIn J e (fun z=>nomatch z) h
end
end L2
namespace L2
open PySem PySem.Spec PyProof.Rows
structure Room (k:Nat) (A:Around):Prop where
 hd:A.handled = none
 dp:A.depth + 3 * k + 5 < recursionLimit
 un:A.units + 16 * k + 200 < cLine
theorem Room.mono {j k:Nat} {A:Around} (r:Room k A) (h:j <= k):Room j A:=⟨r.hd,by have:=r.dp; omega,by have:=r.un; omega⟩
theorem Room.deeper {k:Nat} {A:Around} (r:Room (k + 1) A) (env:Env):Room k (A.deeper env) :=
 ⟨r.hd,by have:=r.dp; show A.depth + 1 + 3 * k + 5 < _; omega,by have:=r.un; show A.units + 3 + 16 * k + 200 < _; omega⟩
theorem Aad {A:Around} {C:Addr} {us:List Value} {kw:List (Str × Value)}:(A.under (.builtin "type.__call__" ⟨.ref C :: us,kw⟩)).depth = A.depth + 1:=by
 first | rfl | simp [Around.under,Code.weight,Code.isCreation,Code.isGuard,Code.isCaller,Code.frames,Code.isFrame,guardIds]
theorem Aae {A:Around} {C:Addr} {us:List Value} {kw:List (Str × Value)}:(A.under (.builtin "type.__call__" ⟨.ref C :: us,kw⟩)).units = A.units + 1:=by
 first | rfl | simp [Around.under,Code.cUnits,Code.frames,Code.isFrame]
theorem Room.make {k:Nat} {A:Around} (r:Room (k + 1) A) (C:Addr) (us:List Value) (kw:List (Str × Value)):Room k (A.under (.builtin "type.__call__" ⟨.ref C :: us,kw⟩)) :=
 ⟨r.hd,by have:=r.dp; rw [Aad]; omega,by have:=r.un; rw [Aae]; omega⟩
theorem Room.depth {k:Nat} {A:Around} (r:Room k A):A.depth < recursionLimit:=by have:=r.dp; omega
theorem Room.units {k:Nat} {A:Around} (r:Room k A):A.units + 64 < cLine:=by have:=r.un; omega
def Sa:TA:=fun _ H Q=>Q [] H
def Fy (ta:TE) (tr:TA):TA:=fun σ H Q=>ta σ H fun x H1=>tr σ H1 fun xs H2=>Q (x :: xs) H2
section
variable {X:Cx} {e:Expr} {es:List Expr} {te:TE} {t:TA} {pos:Pos}
theorem Bb:PA X [] Sa:=fun _ _ _ _ H Q I h=>Calls.spliced_nil ⟨[],H,I,.nil,h⟩
theorem Ba (ha:PE X e te) (hr:PA X es t) (hs:starEach (e :: es) X.env = (false,eval e X.env) :: starEach es X.env:=by rfl):PA X (e :: es) (Fy te t):=by
 intro pos pins s σ H Q I h
 rw [hs]
 show wpAny _ _ (spliced ((false,eval e X.env) :: backTo pos (starEach es X.env))) _ _ s
 refine Calls.spliced_cons (thn (ha pins s σ H _ I h) fun u s1 ⟨x,H1,I1,r1,q1⟩=>?_)
 exact thn (hr pos pins s1 σ H1 _ I1 q1) fun us s2 ⟨xs,H2,I2,r2,q2⟩=>⟨x :: xs,H2,I2,.cons r1 r2,q2⟩
def Af5 (t:TA):TE:=fun σ H Q=>t σ H fun xs H1=>xs.length <= sizeLine/\∀ p,H1 p = none->Q (.ref p) (upd H1 p (.tup xs))
theorem Ahf {x1} (h:PA X es t):PE X (.Tuple es x1 pos) (Af5 t):=by
 intro pins s σ H Q I hq
 refine wpAny_Tuple_spliced (thn (h pos pins s σ H _ I hq) fun us s1 ⟨xs,H1,I1,r,z,q⟩=>⟨by rw [<- r.length]; exact z,?_⟩)
 have hf:H1 s1.heap.objs.size = none:=I1.hok.fresh (Nat.le_refl _)
 refine ⟨.ref s1.heap.objs.size,upd H1 s1.heap.objs.size (.tup xs),I1.laid (t':=s1.toks) (fun b u e=>Heap.get?_push_of_some _ e) (Nat.le_refl _) ?_,rfl,q _ hf⟩
 exact ⟨z,us,r,⟨_,Heap.get?_push_size _ rfl,rfl,_,rfl⟩⟩
end
abbrev Sp:=List V->Hp->VK->XK->Prop
abbrev CXT:=List Env->Hp->Shared->XK->Value->Shared->Prop
structure Env0 (P:Program) (w:World) (K:PySem.W.Frag) (mg:Str->Option Value) (base:Heap) (A:Around) (outer:List Env) (s:Shared) (H:Hp):Prop where
 frames:A.frames = some outer
 mod:Mod K mg base
 bs:∀ b o,base.get? b = some o->s.heap.get? b = some o/\H b = none
 bsz:base.objs.size <= s.heap.objs.size
 funs:s.heap.FunFrames base outer
 frf:∀ b ∈ frs outer,H b = none
 hok:HOk P w H s.heap
 bare:AllBare s.gens
def CE (outer:List Env) (P:Program) (w:World) (H:Hp) (s:Shared) (Q:VK) (u:Value) (s':Shared):Prop :=
 ∃ v H',s'.os = s.os/\AllBare s'.gens/\Un (frs outer) [] H H' s.heap s'.heap/\HOk P w H' s'.heap/\RelV v u/\Q v H'
def CR (CX:CXT) (outer:List Env) (P:Program) (w:World) (H:Hp) (s:Shared) (Q:VK) (E:XK) (r:Result) (s':Shared):Prop :=
 match r with
 | .ok (.ret u)=>CE outer P w H s Q u s'
 | .ok _=>False
 | .error e=>CX outer H s E e s'
structure FnOk (P:Program) (w:World) (K:PySem.W.Frag) (mg:Str->Option Value) (base:Heap) (CX:CXT) (k:Nat) (f:Addr) (fd:FuncData) (ps:List Str) (sp:Sp):Prop where
 len:∀ vs H Q E,sp vs H Q E->vs.length = ps.length
 run:∀ (A:Around) (outer:List Env) (s:Shared) (H:Hp) (args:Args) (us:List Value) (vs:List V) (Q:VK) (E:XK),Room k A->Env0 P w K mg base A outer s H->BindsTo s fd args (ps.zip us)->Vals vs us->sp vs H Q E ->
  codeAny (model P w) A (.call (.ref f) args) (CR CX outer P w H s Q E) s
theorem FnOk.imp {P:Program} {w:World} {K:PySem.W.Frag} {mg:Str->Option Value} {base:Heap} {CX:CXT} {k:Nat} {f:Addr} {fd:FuncData} {ps:List Str} {sp sp':Sp} (F:FnOk P w K mg base CX k f fd ps sp)
  (h:∀ vs H Q E,sp' vs H Q E->sp vs H Q E):FnOk P w K mg base CX k f fd ps sp' :=
 ⟨fun vs H Q E q=>F.len vs H Q E (h _ _ _ _ q),fun A outer s H args us vs Q E hr he hb hv hs=>F.run A outer s H args us vs Q E hr he hb hv (h _ _ _ _ hs)⟩
theorem Env0.make {P:Program} {w:World} {K:PySem.W.Frag} {mg:Str->Option Value} {base:Heap} {A:Around} {outer:List Env} {s:Shared} {H:Hp} (e:Env0 P w K mg base A outer s H) (C:Addr) (us:List Value) (kw:List (Str × Value)) :
  Env0 P w K mg base (A.under (.builtin "type.__call__" ⟨.ref C :: us,kw⟩)) outer s H:=⟨by first | exact e.frames | (simpa [Around.under,Code.envs,Code.isFrame,pushEnvs] using e.frames),e.mod,e.bs,e.bsz,e.funs,e.frf,e.hok,e.bare⟩
section
variable {X:Cx} {pins:List (Addr × Obj)} {σ:St} {H:Hp} {s s':Shared}
theorem Inv.env0 (I:Inv X pins σ H s):Env0 X.prog X.w X.K X.mg X.base X.A X.stack s H :=
 ⟨I.ok.frames,I.ok.mod,I.bs,Nat.le_trans I.ok.bsz I.sz,I.stack,I.stkFree,I.hok,I.bare⟩
theorem Inv.after {Q:VK} {u:Value} (I:Inv X pins σ H s) (h:CE X.stack X.prog X.w H s Q u s'):EP X pins σ Q u s':=by
 obtain ⟨v,H',os,bare,un,hok,r,q⟩:=h
 obtain ⟨hh,g,d,t,os'⟩:=s'
 obtain rfl:os' = s.os:=os
 exact ⟨v,H',I.call (h':=hh) (g':=g) (d':=d) (t':=t) (ch:=[]) un hok bare (fun b z=>absurd z (by simp)),r,q⟩
end
def Nq (sp:Sp) (dvs:List V) (E:XK) (t:TA):TE:=fun σ H Q=>t σ H fun vs H1=>sp (vs ++ dvs) H1 Q E
def Uy (C:Addr) (m:Str) (sp:Sp) (dvs:List V) (E:XK) (ta:TE) (t:TA):TE:=fun σ H Q=>ta σ H fun x H1=>∃ a dx fs,x = .ref a/\H1 a = some (.ins C dx fs)/\fs.lookup m = none /\
 t σ H1 fun vs H2=>sp (x :: (vs ++ dvs)) H2 Q E
def AdC (C:Addr) (sp:Sp) (dvs:List V) (E:XK) (t:TA):TE:=fun σ H Q=>t σ H fun vs H1=>∀ x dx,H1 x = none->H1 dx = none->dx ≠ x ->
 sp (.ref x :: (vs ++ dvs)) (upd (upd H1 dx (.own x)) x (.ins C dx [])) (fun v H2=>v = .non/\Q (.ref x) H2) E
def Binds (K:PySem.W.Frag) (fd:FuncData) (ps:List Str) (ds:List Value):Prop :=
 ∀ (s:Shared) (us:List Value),K.In s.heap->(us ++ ds).length = ps.length->BindsTo s fd ⟨us,[]⟩ (ps.zip (us ++ ds))
theorem Binds.all {K:PySem.W.Frag} {fd:FuncData} {ps:List Str} (h:∀ us:List Value,us.length = ps.length->bindArgs fd ⟨us,[]⟩ = pure (ps.zip us)):Binds K fd ps []:=fun s us _ hl=>by
 rw [List.append_nil] at hl ⊢
 exact .of_eq (h us hl)
def Lz (CX:CXT) (X:Cx) (E:XK):Prop:=∀ (pins:List (Addr × Obj)) (σ:St) (H:Hp) (s:Shared) (e:Value) (s':Shared),Inv X pins σ H s->CX X.stack H s E e s'->X.xe e s'
section
variable {X:Cx} {CX:CXT} {k:Nat} {f C:Addr} {fd:FuncData} {ps:List Str} {sp:Sp} {dvs:List V} {ds:List Value} {E:XK} {x m:Str} {p pos apos:Pos} {e o:Expr} {es:List Expr} {ta:TE} {t:TA}
theorem AbT {pins:List (Addr × Obj)} {σ:St} {H:Hp} {s:Shared} {Q:VK} {us:List Value} {vs:List V} (F:FnOk X.prog X.w X.K X.mg X.base CX k f fd ps sp) (hr:Room k X.A) (hb:Binds X.K fd ps ds) (hd:Vals dvs ds) (hx:Lz CX X E)
  (I:Inv X pins σ H s) (r:Vals vs us) (h:sp (vs ++ dvs) H Q E):wpAny (model X.prog X.w) X.A (call (.ref f) us) (EP X pins σ Q) X.xe s:=by
 have r2:Vals (vs ++ dvs) (us ++ ds):=r.append hd
 have hl:(us ++ ds).length = ps.length:=by rw [<- r2.length]; exact F.len _ _ _ _ h
 refine wpAny_call (codeAny_mono (F.run X.A X.stack s H ⟨us,[]⟩ (us ++ ds) (vs ++ dvs) Q E hr I.env0 (hb s us I.kIn hl) r2 h) fun r s' hq=>?_)
 cases r with
 | error e=>exact hx pins σ H s e s' I hq
 | ok fl =>
  cases fl with
  | ret u=>exact I.after hq
  | next=>exact False.elim hq
  | brk=>exact False.elim hq
  | cont=>exact False.elim hq
theorem Bm (F:FnOk X.prog X.w X.K X.mg X.base CX k f fd ps sp) (hr:Room k X.A) (hg:Gl X x) (hm:X.mg x = some (.ref f)) (hk:PySem.W.keepIn X.K (.ref f) = true) (hb:Binds X.K fd ps ds) (hd:Vals dvs ds) (hx:Lz CX X E)
  (ha:PA X (e :: es) t) (hdb:(x == ("__debug__" : Str)) = false:=by decide) (he:starEach (e :: es) X.env = (false,eval e X.env) :: starEach es X.env:=by rfl) (hpl:(backTo pos (starEach es X.env)).any (·.1) = false:=by rfl) :
  PE X (.Call (.Name x p) (e :: es) [] pos) (Nq sp dvs E t):=by
 intro pins s σ H Q I h
 refine wpAny_Call_Name_kw (Tk I hg hm ?_ hdb)
 refine PySem.W.callWith_K (h₀:=X.base) I.ok.mod.kin hk (thn (ha pos pins s σ H _ I h) fun us s1 ⟨vs,H1,I1,r,q⟩=>⟨I1.kIn,?_⟩) he hpl
 exact AbT F hr hb hd hx I1 r q
theorem Xm {pl:Sem Bool} (he:PE X o ta) (c:Cls X.K C) (hm:Ab7 X.K C m f) (F:FnOk X.prog X.w X.K X.mg X.base CX k f fd ps sp) (hr:Room k X.A) (hb:Binds X.K fd ps ds) (hd:Vals dvs ds) (hx:Lz CX X E) (ha:PA X (e :: es) t)
  (hst:starEach (e :: es) X.env = (false,eval e X.env) :: starEach es X.env:=by rfl) (hpl:(backTo pos (starEach es X.env)).any (·.1) = false:=by rfl)
  (ht:eval (.Call (.Attribute o m apos) (e :: es) [] pos) X.env = (do
   let ov <- eval o X.env
   standAt apos.atName
   let (f,first) <- holding [ov] (getMethod ov m pl)
   callWith pos f first (backTo pos (starEach (e :: es) X.env)) (backToKw pos (keywordEach [] X.env))):=by rfl) :
  PE X (.Call (.Attribute o m apos) (e :: es) [] pos) (Uy C m sp dvs E ta t):=by
 intro pins s σ H Q I h
 refine PySem.W.methodCall_KW (pl:=pl) (thn (he pins s σ H _ I h) fun u s1 ⟨x,H1,I1,rx,a,dx,fs,ex,ea,l,q⟩=>?_) ht
 subst ex
 obtain rfl:u = Value.ref a:=rx
 refine Zt I1 ea c hm l ?_
 refine PySem.W.callWith_K (first:=[.ref a]) (h₀:=X.base) I.ok.mod.kin hm.kp (thn (ha pos pins s1 σ H1 _ I1 q) fun us s2 ⟨vs,H2,I2,r,q2⟩=>⟨I2.kIn,?_⟩) hst hpl
 exact AbT (us:=.ref a :: us) (vs:=.ref a :: vs) F hr hb hd hx I2 (.cons rfl r) q2
structure Mk (K:PySem.W.Frag) (C f:Addr):Prop where
 makes:PySem.W.makesIn K C = true
 init:PySem.W.findIn K (.ref C) "__init__" = some (some (.ref f))
 fn:PySem.W.isFn K (.ref f) = true
 kp:PySem.W.keepIn K (.ref C) = true
theorem Acc {pins:List (Addr × Obj)} {σ:St} {H:Hp} {s:Shared} {Q:VK} {us:List Value} {vs:List V} (M:Mk X.K C f) (F:FnOk X.prog X.w X.K X.mg X.base CX k f fd ps sp) (hr:Room (k + 1) X.A) (hb:Binds X.K fd ps ds) (hd:Vals dvs ds)
  (hx:Lz CX X E) (I:Inv X pins σ H s) (r:Vals vs us)
  (h:∀ x dx,H x = none->H dx = none->dx ≠ x->sp (.ref x :: (vs ++ dvs)) (upd (upd H dx (.own x)) x (.ins C dx [])) (fun v H2=>v = .non/\Q (.ref x) H2) E) :
  wpAny (model X.prog X.w) X.A (call (.ref C) us) (EP X pins σ Q) X.xe s:=by
 have hq:=h (s.heap.objs.size + 1) s.heap.objs.size (I.hok.fresh (Nat.le_succ _)) (I.hok.fresh (Nat.le_refl _)) (Nat.ne_of_lt (Nat.lt_succ_self _))
 have I2:=Inv.made (C:=C) I
 have r2:Vals (V.ref (s.heap.objs.size + 1) :: (vs ++ dvs)) (Value.ref (s.heap.objs.size + 1) :: (us ++ ds)):=.cons rfl (r.append hd)
 have hl:(Value.ref (s.heap.objs.size + 1) :: us ++ ds).length = ps.length:=by
  have e:=r2.length
  rw [F.len _ _ _ _ hq] at e
  exact e.symm
 refine wpAny_call (Ab2 (f:=f) I.kIn M.makes M.init (beq_iff_eq.mp M.fn) (codeAny_mono (F.run _ X.stack _ _ ⟨Value.ref (s.heap.objs.size + 1) :: us,[]⟩ (Value.ref (s.heap.objs.size + 1) :: (us ++ ds)) _ _ E (hr.make C us [])
  (I2.env0.make C us []) (hb _ (Value.ref (s.heap.objs.size + 1) :: us) I2.kIn hl) r2 hq) fun r s' hq'=>?_))
 cases r with
 | error e=>exact hx pins σ _ _ e s' I2 hq'
 | ok fl =>
  cases fl with
  | ret u =>
   obtain ⟨v,H',I3,rv,ev,q3⟩:=I2.after hq'
   subst ev
   exact ⟨rv,⟨V.ref (s.heap.objs.size + 1),H',I3,rfl,q3⟩⟩
  | next=>exact False.elim hq'
  | brk=>exact False.elim hq'
  | cont=>exact False.elim hq'
theorem AeJ (M:Mk X.K C f) (F:FnOk X.prog X.w X.K X.mg X.base CX k f fd ps sp) (hr:Room (k + 1) X.A) (hg:Gl X x) (hm:X.mg x = some (.ref C)) (hb:Binds X.K fd ps ds) (hd:Vals dvs ds) (hx:Lz CX X E)
  (ha:PA X (e :: es) t) (hdb:(x == ("__debug__" : Str)) = false:=by decide) (he:starEach (e :: es) X.env = (false,eval e X.env) :: starEach es X.env:=by rfl) (hpl:(backTo pos (starEach es X.env)).any (·.1) = false:=by rfl) :
  PE X (.Call (.Name x p) (e :: es) [] pos) (AdC C sp dvs E t):=by
 intro pins s σ H Q I h
 refine wpAny_Call_Name_kw (Tk I hg hm ?_ hdb)
 refine PySem.W.callWith_K (h₀:=X.base) I.ok.mod.kin M.kp (thn (ha pos pins s σ H _ I h) fun us s1 ⟨vs,H1,I1,r,q⟩=>⟨I1.kIn,?_⟩) he hpl
 exact Acc M F hr hb hd hx I1 r q
end
def PK (X:Cx) (kws:List Keyword) (t:TA):Prop :=
 ∀ (pos:Pos) (pins:List (Addr × Obj)) (s:Shared) (σ:St) (H:Hp) (Q:List V->Hp->Prop),Inv X pins σ H s->t σ H Q->wpAny (model X.prog X.w) X.A (evalAll ((backToKw pos (keywordEach kws X.env)).map (·.2))) (AP X pins σ Q) X.xe s
section
variable {X:Cx} {CX:CXT} {k:Nat} {f C:Addr} {fd:FuncData} {ps ks:List Str} {sp:Sp} {E:XK} {x m:Str} {p pos apos kpos:Pos} {e o:Expr} {es:List Expr} {kws:List Keyword} {te ta:TE} {t tk:TA} {nm:Option Str}
theorem Afs:PK X [] Sa:=fun _ _ _ _ H Q I h=>wpAny_evalAll_nil ⟨[],H,I,.nil,h⟩
theorem Ae8 (ha:PE X e te) (hr:PK X kws t):PK X (⟨nm,e,kpos⟩ :: kws) (Fy te t):=by
 intro pos pins s σ H Q I h
 show wpAny _ _ (evalAll ((do let v <- eval e X.env; standAt pos; pure v) :: (backToKw pos (keywordEach kws X.env)).map (·.2))) _ _ s
 refine wpAny_evalAll_cons (wpAny_bind (thn (ha pins s σ H _ I h) fun u s1 ⟨x,H1,I1,r1,q1⟩=>wpAny_bind (wpAny_standAt (wpAny_pure ?_))))
 exact thn (hr pos pins s1 σ H1 _ I1 q1) fun us s2 ⟨xs,H2,I2,r2,q2⟩=>⟨x :: xs,H2,I2,.cons r1 r2,q2⟩
variable {g:List Value->List Value->List Value} {gV:List V->List V->List V}
end
structure By (N P:List Str) (sc:Scope):Prop where
 kind:sc.kind = .function
 co:sc.isCoroutine = false
 gen:sc.isGenerator = false
 nd:N.Nodup
 pre:N.take P.length = P
 par:∀ x ∈ P,sc.names.lookup x = some .local\/sc.names.lookup x = some .cell
 nofree:∀ y ∈ sc.names,y.2 ≠ .free
theorem Uo {kindOf:Str->Option NameKind} {x:Str}:∀ {binds:List (Str × Value)} {m:Str->Option Value},(∀ v,(x,v) ∉ binds)->bindL kindOf binds m x = m x
 | [],_,_=>rfl
 | (n,v) :: r,m,h=>by
  unfold bindL
  rw [Uo fun w hw=>h w (List.mem_cons_of_mem _ hw)]
  split
  ·have:x ≠ n:=by rintro rfl; exact h v List.mem_cons_self
   simp [this]
  ·rfl
theorem Ug {kindOf:Str->Option NameKind} {x:Str}:∀ {binds:List (Str × Value)} {m:Str->Option Value},(∀ v,(x,v) ∉ binds)->bindC kindOf binds m x = m x
 | [],_,_=>rfl
 | (n,v) :: r,m,h=>by
  unfold bindC
  rw [Ug fun w hw=>h w (List.mem_cons_of_mem _ hw)]
  split
  ·rfl
  ·have:x ≠ n:=by rintro rfl; exact h v List.mem_cons_self
   simp [this]
theorem Tz {kindOf:Str->Option NameKind} {x:Str} {v:Value}:∀ {P:List Str} {vs:List Value} {i:Nat} {m:Str->Option Value},P.Nodup->P[i]? = some x->vs[i]? = some v->kindOf x = some .local ->
  bindL kindOf (P.zip vs) m x = some v
 | [],_,_,_,_,h,_,_=>by simp at h
 | _ :: _,[],_,_,_,_,h,_=>by simp at h
 | p :: P,w :: vs,0,m,nd,h1,h2,hk=>by
  simp at h1 h2; subst h1; subst h2
  show bindL kindOf ((p,w) :: P.zip vs) m p = _
  unfold bindL
  rw [Uo fun v hv=>(List.nodup_cons.mp nd).1 (List.of_mem_zip hv).1,if_pos hk]
  simp
 | p :: P,w :: vs,i + 1,m,nd,h1,h2,hk=>by
  show bindL kindOf ((p,w) :: P.zip vs) m x = _
  unfold bindL
  exact Tz (i:=i) (List.nodup_cons.mp nd).2 (by simpa using h1) (by simpa using h2) hk
theorem Ts {kindOf:Str->Option NameKind} {x:Str} {v:Value}:∀ {P:List Str} {vs:List Value} {i:Nat} {m:Str->Option Value},P.Nodup->P[i]? = some x->vs[i]? = some v->kindOf x ≠ some .local ->
  bindC kindOf (P.zip vs) m x = some v
 | [],_,_,_,_,h,_,_=>by simp at h
 | _ :: _,[],_,_,_,_,h,_=>by simp at h
 | p :: P,w :: vs,0,m,nd,h1,h2,hk=>by
  simp at h1 h2; subst h1; subst h2
  show bindC kindOf ((p,w) :: P.zip vs) m p = _
  unfold bindC
  rw [Ug fun v hv=>(List.nodup_cons.mp nd).1 (List.of_mem_zip hv).1,if_neg hk]
  simp
 | p :: P,w :: vs,i + 1,m,nd,h1,h2,hk=>by
  show bindC kindOf ((p,w) :: P.zip vs) m x = _
  unfold bindC
  exact Ts (i:=i) (List.nodup_cons.mp nd).2 (by simpa using h1) (by simpa using h2) hk
def Lk (N:List Str) (vs:List V):St:=vs.map some ++ List.replicate (N.length - vs.length) none
def Rz (CX:CXT) (P:Program) (w:World) (K:PySem.W.Frag) (mg:Str->Option Value) (base:Heap) (N:List Str) (qual:Str) (scope:Scope) (f:Addr) (cd:Value) (A:Around) (outer:List Env) (s:Shared) (H:Hp) (E:XK):Cx where
 prog:=P
 w:=w
 K:=K
 mg:=mg
 base:=base
 A:=A.deeper (envOfC qual scope s.heap.objs.size f cd)
 N:=N
 s₀:=s
 H₀:=H
 env:=envOfC qual scope s.heap.objs.size f cd
 outer:=outer
 stack:=envOfC qual scope s.heap.objs.size f cd :: outer
 ex:=[]
 calm:=true
 fn:=fun _=>true
 pn:=[]
 xe:=fun e s'=>wpAny (model P w) (A.deeper (envOfC qual scope s.heap.objs.size f cd)) (leaving (envOfC qual scope s.heap.objs.size f cd) e) (fun _ s''=>CX outer H s E e s'') (fun e' s''=>CX outer H s E e' s'') s'
theorem Vz {sc:Scope} {n:Nat} {x:Str} (h:sc.names.lookup x = some .cell):∃ c,(cellsFrom n sc.names []).lookup x = some c:=by
 have q:=PySem.W.cellsFrom_some sc.names n [] (.inl h)
 exact Option.isSome_iff_exists.mp q
theorem AaY {CX:CXT} {P:Program} {w:World} {K:PySem.W.Frag} {mg:Str->Option Value} {base:Heap} {N ps:List Str} {qual:Str} {scope:Scope} {f:Addr} {cd:Value} {A:Around} {outer:List Env} {s s1:Shared} {H:Hp} {E:XK} {us:List Value} {vs:List V}
  (S:By N ps scope) (hd:A.handled = none) (e0:Env0 P w K mg base A outer s H) (hl:vs.length = ps.length) (r:Vals vs us)
  (x:InCallC s s.heap.objs.size (bindL (envOfC qual scope s.heap.objs.size f cd).kindOf (ps.zip us) fun _=>none) (cellsFrom (s.heap.objs.size + 1) scope.names []) (bindC (envOfC qual scope s.heap.objs.size f cd).kindOf (ps.zip us) fun _=>none) s1) :
  Inv (Rz CX P w K mg base N qual scope f cd A outer s H E) [] (Lk N vs) H s1:=by
 have hpl:ps.length <= N.length:=by have:=congrArg List.length S.pre; rw [List.length_take] at this; omega
 obtain ⟨h1,tk,rfl,hk⟩:=x.done
 have noA:∀ b:Addr,b ∉ (Rz CX P w K mg base N qual scope f cd A outer s H E).ex:=fun b z=>absurd (show b ∈ ([]:List Addr) from z) (by simp)
 refine ⟨⟨e0.mod,S.kind,rfl,rfl,Nat.le_refl _,fun y z c h1 h2=>?_,fun y hy=>?_,fun y c _ h=>?_,fun _=>hd,Around.frames_deeper e0.frames,.inr ⟨rfl,rfl⟩,fun b z=>absurd z (noA b),e0.bs,e0.bsz,fun b _ _=>noA b,fun b z=>absurd z (noA b),e0.funs,e0.frf⟩,
  rfl,e0.bare,Un.kept hk,⟨_,x.toInCall.ns,fun i y v h1 h2 h3=>?_⟩,fun y c h=>⟨_,x.cell y c h⟩,e0.hok.fresh (Nat.le_refl _),fun y c h=>?_,fun p hp=>absurd (show p ∈ ([]:List (Addr × Obj)) from hp) (by simp),e0.hok.kept hk,?_⟩
 ·exact name_of_addr x.apart (PySem.mem_of_lookup h1) (PySem.mem_of_lookup h2)
 ·have hy:scope.names.lookup y = some .cell\/scope.names.lookup y = some .free:=hy
  rcases hy with hy | hy
  ·exact Vz hy
  ·exact absurd rfl (S.nofree _ (PySem.mem_of_lookup hy))
 ·exact Nat.le_of_lt (x.above y c (PySem.mem_of_lookup h))
 ·have hi:i < vs.length:=by
   unfold Lk at h2
   by_cases hi:i < vs.length
   ·exact hi
   ·rw [List.getElem?_append_right (by simpa using hi)] at h2
    rw [List.getElem?_replicate] at h2
    split at h2 <;> cases h2
  have ha:vs[i]? = some v:=by
   unfold Lk at h2
   rw [List.getElem?_append_left (by simpa using hi),List.getElem?_map] at h2
   cases e:vs[i]? with
   | none=>rw [e] at h2; cases h2
   | some a=>rw [e] at h2; cases h2; rfl
  obtain ⟨u,hu,rv⟩:=r.get ha
  have hp:ps[i]? = some y:=by
   rw [<- S.pre,List.getElem?_take_of_lt (by omega)]; exact h1
  have ndP:ps.Nodup:=by rw [<- S.pre]; exact S.nd.sublist (List.take_sublist _ _)
  refine ⟨u,rv,?_⟩
  rcases S.par y (List.mem_of_getElem? hp) with k | k
  ·exact .inl ⟨k,Tz ndP hp hu k⟩
  ·obtain ⟨c,e⟩:=Vz (n:=s.heap.objs.size + 1) k
   refine .inr ⟨.inl k,c,e,?_⟩
   have q:=x.cell y c e
   rw [Ts ndP hp hu (by show scope.names.lookup y ≠ _; rw [k]; decide)] at q
   exact q
 ·exact e0.hok.fresh (Nat.le_of_lt (x.above y c (PySem.mem_of_lookup h)))
 ·unfold Lk
  show _ = N.length
  rw [List.length_append,List.length_map,List.length_replicate]
  omega
theorem Ahq {CX:CXT} {P:Program} {w:World} {K:PySem.W.Frag} {mg:Str->Option Value} {base:Heap} {k:Nat} {f:Addr} {name qual:Str} {params:Arguments} {body:List Stmt} {scope:Scope} {dV kV doc pm cdv ct oc:Value} {an od:Option Addr}
  {osl:Array (Option Value)} {N ps:List Str} {sp:Sp} (lk:K.lookup f = some ⟨oc,od,.func (PySem.W.fnOf name qual params body scope dV kV doc pm an cdv ct),osl⟩) (hcd:PySem.W.codeIn K cdv qual = true) (S:By N ps scope)
  (len:∀ vs H Q E,sp vs H Q E->vs.length = ps.length)
  (hbody:∀ (A:Around) (outer:List Env) (s:Shared) (H:Hp) (vs:List V) (Q:VK) (E:XK),Room k (A.deeper (envOfC qual scope s.heap.objs.size f cdv))->sp vs H Q E ->
   ∃ t,PSs (Rz CX P w K mg base N qual scope f cdv A outer s H E) body t/\t { nx:=fun _ H'=>Q .non H',rt:=Q } (Lk N vs) H) :
  FnOk P w K mg base CX (k + 1) f (PySem.W.fnOf name qual params body scope dV kV doc pm an cdv ct) ps sp:=by
 refine ⟨len,fun A outer s H args us vs Q E hr e0 hb r hsp=>?_⟩
 have hl:=len _ _ _ _ hsp
 have KX:K.In s.heap:=e0.mod.kin.keeps fun b o e=>(e0.bs b o e).1
 have lim:s.heap.NoLimit:=e0.mod.nolimit.keeps fun b o e=>(e0.bs b o e).1
 have hkind:∀ y ∈ ps.zip us,scope.names.lookup y.1 = some .local\/(scope.names.lookup y.1 = some .cell/\((cellsFrom (s.heap.objs.size + 1) scope.names []).lookup y.1).isSome = true):=fun ⟨n,v⟩ hy=>by
  rcases S.par n (List.of_mem_zip hy).1 with q | q
  ·exact .inl q
  ·exact .inr ⟨q,PySem.W.cellsFrom_some _ _ _ (.inl q)⟩
 refine codeAny_call_function hr.depth (KX _ _ lk) rfl S.co S.gen rfl (PySem.W.codeRec_of KX hcd) (hb _ _ _ _ ?_)
 refine wpAny_newFunctionEnv_cells S.kind hkind fun env he s1 x=>?_
 subst he
 refine ⟨lim.keeps x.toInCall.keep,codeAny_func ?_⟩
 obtain ⟨t,ht,hq⟩:=hbody A outer s H vs Q E (hr.deeper _) hsp
 have I:Inv (Rz CX P w K mg base N qual scope f cdv A outer s H E) [] (Lk N vs) H s1:=AaY S hr.hd e0 hl r x
 refine wpAny_mono (ht [] s1 (Lk N vs) H _ I hq) (fun fl s' hs=>?_) fun e s' hs=>hs
 have fin:∀ {σ':St} {H':Hp} {v:V} {u:Value},Inv (Rz CX P w K mg base N qual scope f cdv A outer s H E) [] σ' H' s'->RelV v u->Q v H'->CE outer P w H s Q u s' :=
  fun {σ' H' v u} J rv q=>⟨v,H',J.os,J.bare,J.base,J.hok,rv,q⟩
 cases fl with
 | ret u =>
  obtain ⟨v,σ',H',J,rv,q⟩:=hs
  exact fin J rv q
 | next =>
  obtain ⟨σ',H',J,q⟩:=hs
  exact fin (v:=V.non) (u:=Value.none) J rfl q
 | brk =>
  obtain ⟨_,_,_,q⟩:=hs
  exact False.elim q
 | cont =>
  obtain ⟨_,_,_,q⟩:=hs
  exact False.elim q
end L2
namespace L2
open PySem PySem.Spec PyProof.Rows
section
variable {X:Cx} {x:Str} {p pos:Pos} {e:Expr} {es:List Expr} {t:TA} {id T:String} {r:List V->Hp->VK->Prop}
def tCB (r:List V->Hp->VK->Prop) (t:TA):TE:=fun σ H Q=>t σ H fun vs H1=>r vs H1 Q
theorem Cq (hc:Jk X (.builtin id) r) (hg:Gl X x) (hm:X.mg x = none) (hv:bootBuiltins x = some (.builtin id)) (ha:PA X (e :: es) t) (hn:x ≠ "__name__":=by decide) (hdb:(x == ("__debug__" : Str)) = false:=by decide)
  (he:starEach (e :: es) X.env = (false,eval e X.env) :: starEach es X.env:=by rfl) (hpl:(backTo pos (starEach es X.env)).any (·.1) = false:=by rfl):PE X (.Call (.Name x p) (e :: es) [] pos) (tCB r t):=by
 intro pins s σ H Q I h
 refine wpAny_Call_Name_kw (Gw I hg hm hv ?_ hn hdb)
 exact PyProof.Rows.callWith_builtin1 (thn (ha pos pins s σ H _ I h) fun us s1 ⟨vs,H1,I1,r1,q1⟩=>hc pins s1 σ H1 vs us Q I1 r1 q1) he hpl
theorem Qh (hc:Jk X (.type T) r) (hg:Gl X x) (hm:X.mg x = none) (hv:bootBuiltins x = some (.type T)) (ha:PA X (e :: es) t) (hn:x ≠ "__name__":=by decide) (hdb:(x == ("__debug__" : Str)) = false:=by decide)
  (he:starEach (e :: es) X.env = (false,eval e X.env) :: starEach es X.env:=by rfl) (hpl:(backTo pos (starEach es X.env)).any (·.1) = false:=by rfl):PE X (.Call (.Name x p) (e :: es) [] pos) (tCB r t):=by
 intro pins s σ H Q I h
 refine wpAny_Call_Name_kw (Gw I hg hm hv ?_ hn hdb)
 exact PyProof.Rows.callWith_type1 (thn (ha pos pins s σ H _ I h) fun us s1 ⟨vs,H1,I1,r1,q1⟩=>hc pins s1 σ H1 vs us Q I1 r1 q1) he hpl
end
end L2
namespace HT
open PySem PyProof.Rows
section
open PySem.SeqAt
open PySem.AutoSeq1 (wpAny_loadPart')
open PySem.MeetsSeq PySem.MeetsSeq2 PySem.MeetsSeq3
end
section
variable {prog:Program} {w:World} {A:Around} {E:Value->Shared->Prop} {s:Shared}
def sIx (n d:Nat):Option Int->Nat
 | none=>d
 | some v=>if v < 0 then (v + (n:Int)).toNat else min v.toNat n
end
end HT
namespace L2
open PySem PySem.Spec PyProof.Rows
abbrev TO:=St->Hp->(Option Int->Hp->Prop)->Prop
def PO (X:Cx) (e:Option Expr) (t:TO):Prop :=
 ∀ (pins:List (Addr × Obj)) (s:Shared) (σ:St) (H:Hp) (Q:Option Int->Hp->Prop),Inv X pins σ H s->t σ H Q ->
  wpAny (model X.prog X.w) X.A (evalPart e X.env) (fun u s'=>∃ o H',Inv X pins σ H' s'/\IsPart u o/\Q o H') X.xe s
def Adn (t:TE):TO:=fun σ H Q=>t σ H fun x H1=>∃ i,x = .int i/\Q (some i) H1
section
variable {X:Cx} {e:Expr} {te:TE} {lo hi:Option Expr} {tl th:TO} {pos p2:Pos}
theorem Yg (h:PE X e te):PO X (some e) (Adn te):=by
 intro pins s σ H Q I hw
 rw [evalPart_some]
 refine thn (h pins s σ H _ I hw) fun u s1 ⟨x,H1,I1,r1,q1⟩=>?_
 obtain ⟨i,rfl,q⟩:=q1
 obtain ⟨t,rfl⟩:=r1
 exact ⟨some i,H1,I1,.int i t,q⟩
def SlR (X:Cx) (r:V->Option Int->Option Int->Hp->VK->Prop):Prop :=
 ∀ (pins:List (Addr × Obj)) (s:Shared) (σ:St) (H:Hp) (x:V) (v vl vu:Value) (lo hi:Option Int) (sl:Addr) (Q:VK),Inv X pins σ H s->RelV x v->s.heap.IsSliceOf sl vl vu .none->IsPart vl lo->IsPart vu hi->r x lo hi H Q ->
  ∃ T id,typeLookup (.type T) "__getitem__" = pure (some (.builtin id))/\s.TypeIs v T/\wpAny (model X.prog X.w) X.A (getItem v (.ref sl)) (EP X pins σ Q) X.xe s
def tSl (r:V->Option Int->Option Int->Hp->VK->Prop) (te:TE) (tl th:TO):TE:=fun σ H Q=>te σ H fun x H1=>tl σ H1 fun l H2=>th σ H2 fun u H3=>r x l u H3 Q
theorem Ab6 {r:V->Option Int->Option Int->Hp->VK->Prop} (hr:SlR X r) (he:PE X e te) (hl:PO X lo tl) (hu:PO X hi th):PE X (.Subscript e (.Slice lo hi none p2) pos) (tSl r te tl th):=by
 intro pins s σ H Q I h
 refine Subscript_ (thn (he pins s σ H _ I h) fun v s1 ⟨x,H1,I1,r1,q1⟩=>?_)
 refine wpAny_Slice (thn (hl pins s1 σ H1 _ I1 q1) fun vl s2 ⟨l,H2,I2,pl,q2⟩=>thn (hu pins s2 σ H2 _ I2 q2) fun vu s3 ⟨u,H3,I3,pu,q3⟩=>?_)
 rw [evalPart_none]
 refine wpAny_pure ?_
 have I4:Inv X pins σ H3 { s3 with heap:=s3.heap.push { cls:=.type "slice",data:=.fields #[vl,vu,.none] } }:=I3.kept (t':=s3.toks) fun b ob q=>Heap.get?_push_of_some _ q
 obtain ⟨T,id,hT,ht,hg⟩:=hr pins { s3 with heap:=s3.heap.push { cls:=.type "slice",data:=.fields #[vl,vu,.none] } } σ H3 x v vl vu l u s3.heap.objs.size Q I4 r1 (Heap.IsSliceOf.new ..) pl pu q3
 show wpAny (model X.prog X.w) X.A (subscriptTail e (.Slice lo hi none p2) v (.ref s3.heap.objs.size)) (EP X pins σ Q) X.xe { s3 with heap:=s3.heap.push { cls:=.type "slice",data:=.fields #[vl,vu,.none] } }
 exact tail_any (ops:=[.ref s3.heap.objs.size,v]) ht hT hg (by with_unfolding_all rfl)
def Rw (xs:List V) (lo hi:Option Int):List V:=(xs.drop (HT.sIx xs.length 0 lo)).take (HT.sIx xs.length xs.length hi - HT.sIx xs.length 0 lo)
theorem Wr (xs:List V) (lo hi:Option Int):(Rw xs lo hi).length <= xs.length:=by
 unfold Rw
 rw [List.length_take,List.length_drop]
 omega
end
end L2
namespace L2
open PySem PySem.Spec PyProof.Rows
def ixN (n:Nat) (i:Int):Option Nat:=if 0 <= i then (if i < n then some i.toNat else none) else if -(n:Int) <= i then some (i + n).toNat else none
def atI {α:Type} (xs:List α) (i:Int):Option α:=(ixN xs.length i).bind fun j=>xs[j]?
theorem Aen {n:Nat} {i:Int} {j:Nat} (h:ixN n i = some j):seqIndex? i n = some j/\j < n/\-(n:Int) <= i/\i < n:=by
 unfold ixN at h
 by_cases h0:0 <= i
 ·rw [if_pos h0] at h
  by_cases h1:i < n
  ·rw [if_pos h1] at h
   have e:i.toNat = j:=Option.some.inj h
   exact ⟨by rw [seqIndex_of h0 h1,e],by omega,by omega,h1⟩
  ·rw [if_neg h1] at h; cases h
 ·rw [if_neg h0] at h
  by_cases h1:-(n:Int) <= i
  ·rw [if_pos h1] at h
   have e:(i + n).toNat = j:=Option.some.inj h
   exact ⟨by rw [seqIndex_neg (by omega) h1,e],by omega,h1,by omega⟩
  ·rw [if_neg h1] at h; cases h
theorem Xg {α:Type} {xs:List α} {i:Int} {v:α} (h:atI xs i = some v):∃ j,seqIndex? i xs.length = some j/\xs[j]? = some v/\j < xs.length/\-(xs.length:Int) <= i/\i < xs.length:=by
 unfold atI at h
 cases e:ixN xs.length i with
 | none=>rw [e] at h; cases h
 | some j =>
  rw [e] at h
  obtain ⟨h1,h2,h3,h4⟩:=Aen e
  exact ⟨j,h1,h,h2,h3,h4⟩
theorem Ju {α:Type} {xs:List α} {j:Nat} {v:α} (h:xs[j]? = some v):atI xs (j:Int) = some v:=by
 have hj:j < xs.length:=(List.getElem?_eq_some_iff.mp h).1
 have e:ixN xs.length (j:Int) = some j:=by
  unfold ixN
  rw [if_pos (by omega),if_pos (by omega)]; simp
 unfold atI; rw [e]; exact h
def Afi (b:Expr):Prop:=∀ o i,subscripted b false o i = operate [o,i] (getItem o i)
def IxR (X:Cx) (r:R2):Prop :=
 ∀ (value slice:Expr) (pins:List (Addr × Obj)) (s:Shared) (σ:St) (H:Hp) (x y:V) (v u:Value) (Q:VK),Inv X pins σ H s->RelV x v->RelV y u->r x y H Q ->
  subscripted slice false v u = operate [v,u] (getItem v u)->wpAny (model X.prog X.w) X.A (subscriptTail value slice v u) (EP X pins σ Q) X.xe s
def MtR (X:Cx) (id:String) (r:V->List V->Hp->VK->Prop):Prop :=
 ∀ (pins:List (Addr × Obj)) (s:Shared) (σ:St) (H:Hp) (x:V) (xs:List V) (v:Value) (us:List Value) (Q:VK),Inv X pins σ H s->RelV x v->Vals xs us->r x xs H Q ->
  wpAny (model X.prog X.w) X.A (call (.builtin id) (v :: us)) (EP X pins σ Q) X.xe s
section
variable {X:Cx} {a b:Expr} {ta tb:TE} {pos:Pos}
theorem Cp {r:R2} (hr:IxR X r) (ha:PE X a ta) (hb:PE X b tb) (hs:Afi b):PE X (.Subscript a b pos) (tOp r ta tb):=by
 intro pins s σ H Q I h
 exact Subscript_ (Acx ha hb I h fun v u s2 x y H2 I2 rx ry q=>hr a b pins s2 σ H2 x y v u Q I2 rx ry q (hs _ _))
def Yk (K:PySem.W.Frag):R2:=fun x y H Q=>∃ p xs i v,x = .ref p/\y = .int i/\SqL K H p xs/\atI xs i = some v/\Q v H
def Yv (K:PySem.W.Frag):R2:=fun x y H Q=>∃ p xs i v,x = .ref p/\y = .int i/\SqT K H p xs/\atI xs i = some v/\Q v H
theorem Sz:IxR X (Yk X.K):=by
 intro value slice pins s σ H x y v u Q I rx ry h hs
 obtain ⟨p,xs,i,z,rfl,rfl,hq,he,q⟩:=h
 cases rx
 obtain ⟨t,rfl⟩:=ry
 obtain ⟨its,r,pl,hz⟩:=I.list hq
 obtain ⟨j,h1,h2,h3,h4,h5⟩:=Xg he
 obtain ⟨w,ew,rw'⟩:=r.get h2
 have hl:=r.length
 have hn:=Vy
 have fin:EP X pins σ Q w s:=⟨z,H,I,rw',q⟩
 by_cases h0:0 <= i
 ·have hj:i.toNat = j:=by
   rw [seqIndex_of h0 h5] at h1
   exact Option.some.inj h1
  exact item_listR pl.isList h0 (by omega) (by rw [hj]; simpa using ew) fin hs
 ·have hj:(i + (its.toArray.size:Int)).toNat = j:=by
   rw [seqIndex_neg (by omega) h4] at h1
   rw [List.size_toArray,<- hl]
   exact Option.some.inj h1
  exact subscriptTail_builtinR (x:=w) pl.isList.typeIs slot_list_getitem.lookup
   (wpAny_getItem_list_neg (Q:=fun r s'=>r = w/\EP X pins σ Q r s') pl.isList (by omega) (by rw [List.size_toArray] <;> omega) (by omega) (by rw [hj]; simpa using ew) ⟨rfl,fin⟩) hs
theorem Ve:IxR X (Yv X.K):=by
 intro value slice pins s σ H x y v u Q I rx ry h hs
 obtain ⟨p,xs,i,z,rfl,rfl,hq,he,q⟩:=h
 cases rx
 obtain ⟨t,rfl⟩:=ry
 obtain ⟨its,r,pl,hz⟩:=I.tuple hq
 obtain ⟨j,h1,h2,h3,h4,h5⟩:=Xg he
 obtain ⟨w,ew,rw'⟩:=r.get h2
 have hl:=r.length
 have hn:=Vy
 have fin:EP X pins σ Q w s:=⟨z,H,I,rw',q⟩
 exact subscriptTail_builtinR (x:=w) pl.typeIs slot_tuple_getitem.lookup
  (getItem_tuple (j:=j) (Q:=fun r s'=>r = w/\EP X pins σ Q r s') pl (by omega) (by omega) (by rw [List.size_toArray,<- hl]; exact h1) (by simpa using ew) ⟨rfl,fin⟩) hs
theorem Vc (lo hi:Option Int) (n:Nat):(sliceBounds lo hi none n).1 = ((HT.sIx n 0 lo:Nat):Int)/\(sliceBounds lo hi none n).2.1 = ((HT.sIx n n hi:Nat):Int)/\(sliceBounds lo hi none n).2.2 = 1:=by
 refine ⟨?_,?_,rfl⟩
 ·cases lo with
  | none=>simp [sliceBounds,HT.sIx]
  | some i =>
   simp only [sliceBounds,HT.sIx,Option.getD_none,show (1:Int) > 0 by decide,if_true]
   by_cases h:i < 0
   ·simp only [h,if_true] <;> omega
   ·simp only [h,if_false] <;> omega
 ·cases hi with
  | none=>simp [sliceBounds,HT.sIx]
  | some i =>
   simp only [sliceBounds,HT.sIx,Option.getD_none,show (1:Int) > 0 by decide,if_true]
   by_cases h:i < 0
   ·simp only [h,if_true] <;> omega
   ·simp only [h,if_false] <;> omega
theorem Uq (its:List Value) (lo hi:Option Int):slicePick its.toArray lo hi none = ((its.drop (HT.sIx its.length 0 lo)).take (HT.sIx its.length its.length hi - HT.sIx its.length 0 lo)).toArray:=by
 obtain ⟨h1,h2,h3⟩:=Vc lo hi its.toArray.size
 unfold slicePick
 rw [h1,h2,h3]
 simp only [sliceRange_one,pick_run,List.size_toArray] <;> rfl
def AiA (K:PySem.W.Frag):V->Option Int->Option Int->Hp->VK->Prop:=fun x lo hi H Q=>∃ a xs,x = .ref a/\SqL K H a xs/\∀ p,H p = none->Q (.ref p) (upd H p (.lst (Rw xs lo hi)))
theorem AeR:SlR X (AiA X.K):=by
 intro pins s σ H x v vl vu lo hi sl Q I rx hs pl pu h
 obtain ⟨a,xs,rfl,hx,q⟩:=h
 cases rx
 obtain ⟨its,r,ht,hz⟩:=I.list hx
 have hlen:=r.length
 refine ⟨"list",_,slot_list_getitem.lookup,ht.isList.typeIs,?_⟩
 refine wpAny_getItem_list_slice ht.isList hs pl pu .none (by simp) ?_ (by rw [List.size_toArray] <;> omega)
 rw [Uq,<- hlen]
 refine ⟨.ref s.heap.objs.size,_,I.laid (t':=s.toks) (o:=.lst (Rw xs lo hi)) (fun b ob q=>Heap.get?_push_of_some _ q) (Nat.le_refl _) ?_,rfl,q _ (I.hok.fresh (Nat.le_refl _))⟩
 exact ⟨Nat.le_trans (Wr xs lo hi) hz,_,0,(r.drop (HT.sIx xs.length 0 lo)).take (HT.sIx xs.length xs.length hi - HT.sIx xs.length 0 lo),Heap.get?_push_size _ rfl⟩
def Gg:V->Bool
 | .non=>true
 | .bl _=>true
 | .int _=>true
 | .str _=>true
 | _=>false
def eqV:V->V->Bool
 | .non,.non=>true
 | .bl a,.bl b=>a == b
 | .bl a,.int b=>(if a then 1 else 0) == b
 | .int a,.bl b=>a == (if b then 1 else 0)
 | .int a,.int b=>a == b
 | .str a,.str b=>a == b
 | _,_=>false
theorem AaG {A:Around} {s:Shared} {y x:V} {u v:Value} (ry:RelV y u) (rx:RelV x v) (fy:Gg y = true) (fx:Gg x = true):SeqAt.EqAt A s u v (eqV y x):=by
 cases y with
 | non =>
  cases ry
  cases x with
  | non=>cases rx; exact SeqAt.EqAt.same _
  | bl b=>cases rx; exact SeqAt.EqAt.none_bool b
  | int b=>obtain ⟨t,rfl⟩:=rx; exact SeqAt.EqAt.none_int b t
  | str b=>obtain ⟨t,rfl⟩:=rx; exact SeqAt.EqAt.none_str b t
  | _=>exact absurd (show false = true from fx) Bool.false_ne_true
 | bl a =>
  cases ry
  cases x with
  | non=>cases rx; exact SeqAt.EqAt.bool_none a
  | bl b=>cases rx; exact SeqAt.EqAt.bool_bool a b
  | int b=>obtain ⟨t,rfl⟩:=rx; exact SeqAt.EqAt.bool_int a b t
  | str b=>obtain ⟨t,rfl⟩:=rx; exact SeqAt.EqAt.bool_str a b t
  | _=>exact absurd (show false = true from fx) Bool.false_ne_true
 | int a =>
  obtain ⟨t',rfl⟩:=ry
  cases x with
  | non=>cases rx; exact SeqAt.EqAt.int_none a t'
  | bl b=>cases rx; exact SeqAt.EqAt.int_bool a t' b
  | int b=>obtain ⟨t,rfl⟩:=rx; exact SeqAt.EqAt.int_int a t' b t
  | str b=>obtain ⟨t,rfl⟩:=rx; exact SeqAt.EqAt.int_str a t' b t
  | _=>exact absurd (show false = true from fx) Bool.false_ne_true
 | str a =>
  obtain ⟨t',rfl⟩:=ry
  cases x with
  | non=>cases rx; exact SeqAt.EqAt.str_none a t'
  | bl b=>cases rx; exact SeqAt.EqAt.str_bool a t' b
  | int b=>obtain ⟨t,rfl⟩:=rx; exact SeqAt.EqAt.str_int a t' b t
  | str b=>obtain ⟨t,rfl⟩:=rx; exact SeqAt.EqAt.str_str a t' b t
  | _=>exact absurd (show false = true from fx) Bool.false_ne_true
 | _=>exact absurd (show false = true from fy) Bool.false_ne_true
def eqU (x:V) (u:Value):Bool:=match u with
 | .none=>eqV .non x
 | .bool b=>eqV (.bl b) x
 | .int i _=>eqV (.int i) x
 | .str z _=>eqV (.str z) x
 | _=>false
theorem AaB {x y:V} {u:Value} (r:RelV y u) (f:Gg y = true):eqU x u = eqV y x:=by
 cases y with
 | non=>cases r; rfl
 | bl b=>cases r; rfl
 | int i=>obtain ⟨t,rfl⟩:=r; rfl
 | str z=>obtain ⟨t,rfl⟩:=r; rfl
 | _=>exact absurd (show false = true from f) Bool.false_ne_true
theorem Lu {x:V}:∀ {xs:List V} {us:List Value},Vals xs us->xs.all Gg = true->us.any (eqU x) = xs.any fun y=>eqV y x
 | _,_,.nil,_=>rfl
 | y :: xs,u :: us,.cons r t,f=>by
  rw [List.all_cons,Bool.and_eq_true] at f
  rw [List.any_cons,List.any_cons,AaB r f.1,Lu t f.2]
theorem Jv {A:Around} {s:Shared} {x:V} {v:Value} (rx:RelV x v) (fx:Gg x = true):∀ {xs:List V} {us:List Value},Vals xs us->xs.all Gg = true->∀ u ∈ us,SeqAt.EqAt A s u v (eqU x u)
 | _,_,.nil,_=>fun u hu=>by cases hu
 | y :: xs,u :: us,.cons r t,f=>fun u' hu=>by
  rw [List.all_cons,Bool.and_eq_true] at f
  rcases List.mem_cons.mp hu with rfl | hu
  ·rw [AaB r f.1]; exact AaG r rx f.1 fx
  ·exact Jv rx fx t f.2 u' hu
def inV (x:V) (xs:List V):Bool:=xs.any fun y=>eqV y x
def rIn (K:PySem.W.Frag) (neg:Bool):R2:=fun x y H Q=>∃ p xs,y = .ref p/\(SqL K H p xs\/SqT K H p xs)/\Gg x = true/\xs.all Gg = true/\Q (.bl (if neg then !inV x xs else inV x xs)) H
theorem Tx:OpR X (compareOp .In) (rIn X.K false):=by
 intro pins s σ H x y v u Q I rx ry h
 obtain ⟨p,xs,rfl,hq,fx,fs,q⟩:=h
 cases ry
 rcases hq with hq | hq
 ·obtain ⟨its,r,pl,hz⟩:=I.list hq
  refine SeqAt.in_listAt (eqU x) pl.isList (fun w hw=>Jv rx fx r fs w (by simpa using hw)) ⟨.bl _,H,I,rfl,?_⟩
  rw [show its.toArray.any (eqU x) = its.any (eqU x) by simp,Lu r fs]
  exact q
 ·obtain ⟨its,r,pl,hz⟩:=I.tuple hq
  refine SeqAt.in_tupleAt (eqU x) pl (fun w hw=>Jv rx fx r fs w (by simpa using hw)) ⟨.bl _,H,I,rfl,?_⟩
  rw [show its.toArray.any (eqU x) = its.any (eqU x) by simp,Lu r fs]
  exact q
theorem Wc:OpR X (compareOp .NotIn) (rIn X.K true):=by
 intro pins s σ H x y v u Q I rx ry h
 obtain ⟨p,xs,rfl,hq,fx,fs,q⟩:=h
 cases ry
 rcases hq with hq | hq
 ·obtain ⟨its,r,pl,hz⟩:=I.list hq
  refine SeqAt.notIn_listAt (eqU x) pl.isList (fun w hw=>Jv rx fx r fs w (by simpa using hw)) ⟨.bl _,H,I,rfl,?_⟩
  rw [show its.toArray.any (eqU x) = its.any (eqU x) by simp,Lu r fs]
  exact q
 ·obtain ⟨its,r,pl,hz⟩:=I.tuple hq
  refine SeqAt.notIn_tupleAt (eqU x) pl (fun w hw=>Jv rx fx r fs w (by simpa using hw)) ⟨.bl _,H,I,rfl,?_⟩
  rw [show its.toArray.any (eqU x) = its.any (eqU x) by simp,Lu r fs]
  exact q
theorem Jy:Jk X (.builtin "len") (fun xs H Q=>∃ p ys,xs = [.ref p]/\(SqL X.K H p ys\/SqT X.K H p ys)/\Q (.int ys.length) H):=by
 intro pins s σ H xs us Q I r h
 obtain ⟨p,ys,rfl,hq,q⟩:=h
 obtain ⟨u,rfl,rx⟩:=Ny r
 cases rx
 have hn:=Vy
 rcases hq with hq | hq
 ·obtain ⟨its,r',pl,hz⟩:=I.list hq
  have hlen:=r'.length
  exact Calls.call_len_list pl.isList (by simp only [List.size_toArray] <;> omega) ⟨.int ys.length,H,I.tok _,⟨s.toks + 1,by rw [List.size_toArray,hlen]⟩,q⟩
 ·obtain ⟨its,r',pl,hz⟩:=I.tuple hq
  have hlen:=r'.length
  exact len_tuple pl (by simp only [List.size_toArray] <;> omega) ⟨.int ys.length,H,I.tok _,⟨s.toks + 1,by rw [List.size_toArray,hlen]⟩,q⟩
theorem Wp:Jk X (.type "list") (fun xs H Q=>∃ p ys,xs = [.ref p]/\(SqL X.K H p ys\/SqT X.K H p ys)/\∀ l,H l = none->Q (.ref l) (upd H l (.lst ys))):=by
 intro pins s σ H xs us Q I r h
 obtain ⟨p,ys,rfl,hq,q⟩:=h
 obtain ⟨u,rfl,rx⟩:=Ny r
 cases rx
 have fin:∀ (its:List Value),Vals ys its->ys.length <= sizeLine->∀ (h':Heap) (c':Nat),(∀ b o',s.heap.get? b = some o'->h'.get? b = some o') ->
   h'.get? s.heap.objs.size = some { cls:=.type "list",dict:=none,data:=.seq its.toArray c',slots:=#[] }->EP X pins σ Q (.ref s.heap.objs.size) { s with heap:=h' }:=fun its r' hz h' c' kp e =>
  ⟨.ref s.heap.objs.size,_,I.laid (t':=s.toks) kp (Nat.le_refl _) (show ObjOk X.prog X.w _ h' _ (.lst ys) from ⟨hz,its,c',r',e⟩),rfl,q _ (I.hok.fresh (Nat.le_refl _))⟩
 rcases hq with hq | hq
 ·obtain ⟨its,r',pl,hz⟩:=I.list hq
  have hlen:=r'.length
  obtain ⟨o,ho,hc,n,hd⟩:=pl.isList
  exact call_list_seq p (.inl rfl) ho hc hd (fun h' c' kp e=>fin its r' hz h' c' kp e) (by simp only [List.size_toArray] <;> omega)
 ·obtain ⟨its,r',pl,hz⟩:=I.tuple hq
  have hlen:=r'.length
  obtain ⟨o,ho,hc,n,hd⟩:=pl
  exact call_list_seq p (.inr rfl) ho hc hd (fun h' c' kp e=>fin its r' hz h' c' kp e) (by simp only [List.size_toArray] <;> omega)
def tyV (K:PySem.W.Frag) (T:String) (x:V) (H:Hp):Prop:=match x with
 | .str _=>T = "str"
 | .int _=>T = "int"
 | .ref p=>(T = "list"/\∃ xs,SqL K H p xs)\/(T = "tuple"/\∃ o,K.lookup p = some o/\o.cls = .type "tuple"/\o.dict = none) \/
   (T = "dict"/\((∃ kvs,H p = some (.dK kvs))\/∃ kvs,H p = some (.dT kvs)))\/(T = "set"/\∃ S n,H p = some (.set S n))
 | _=>False
theorem Abu {pins:List (Addr × Obj)} {σ:St} {H:Hp} {s:Shared} {T:String} {x:V} {v:Value} (I:Inv X pins σ H s) (r:RelV x v) (ty:tyV X.K T x H) :
  s.TypeIs v T/\∀ a,v = .ref a->∃ ob,s.heap.get? a = some ob/\ob.dict = none:=by
 cases x with
 | str z =>
  obtain ⟨t,rfl⟩:=r
  cases (show T = "str" from ty)
  exact ⟨typeIs_str s z t,fun _ e=>nomatch e⟩
 | int i =>
  obtain ⟨t,rfl⟩:=r
  cases (show T = "int" from ty)
  exact ⟨typeIs_int s i t,fun _ e=>nomatch e⟩
 | ref p =>
  cases r
  rcases ty with ⟨rfl,xs,hq⟩ | ⟨rfl,o,hk,hc,hd⟩ | ⟨rfl,hk⟩ | ⟨rfl,S,n,hk⟩
  ·obtain ⟨its,_,pl,_⟩:=I.list hq
   refine ⟨pl.isList.typeIs,fun a e=>?_⟩
   cases e
   obtain ⟨o,n,e,c,hd,_⟩:=pl
   exact ⟨o,e,hd⟩
  ·refine ⟨⟨o,I.kIn p o hk,hc⟩,fun a e=>?_⟩
   cases e
   exact ⟨o,I.kIn _ o hk,hd⟩
  ·have z:∃ o,s.heap.get? p = some o/\o.ExactDict:=by
    rcases hk with ⟨kvs,hk⟩ | ⟨kvs,hk⟩
    ·obtain ⟨_,_,_,_,o,_,_,e,ex,_⟩:=I.hok p _ hk
     exact ⟨o,e,ex⟩
    ·obtain ⟨_,_,_,_,o,_,_,e,ex,_⟩:=I.hok p _ hk
     exact ⟨o,e,ex⟩
   obtain ⟨o,e,ex⟩:=z
   refine ⟨⟨o,e,ex.1⟩,fun a e2=>?_⟩
   cases e2
   exact ⟨o,e,ex.2.1⟩
  ·obtain ⟨o,_,_,_,e,ex,_⟩:=I.hok p _ hk
   refine ⟨⟨o,e,ex.1⟩,fun a e2=>?_⟩
   cases e2
   exact ⟨o,e,ex.2.1⟩
 | _=>exact False.elim ty
def AfC (K:PySem.W.Frag) (T:String) (r:V->List V->Hp->VK->Prop) (to:TE):TE:=fun σ H Q=>to σ H fun x H1=>tyV K T x H1/\r x [] H1 Q
def tBM (K:PySem.W.Frag) (T:String) (r:V->List V->Hp->VK->Prop) (to:TE) (t:TA):TE:=fun σ H Q=>to σ H fun x H1=>tyV K T x H1/\t σ H1 fun xs H2=>r x xs H2 Q
variable {o e:Expr} {es:List Expr} {to:TE} {t:TA} {name:Str} {apos cpos:Pos} {T id:String} {r:V->List V->Hp->VK->Prop}
theorem Afn (pa:PlainAttrs T) (slot:Slot T name id) (hty:typeOf (.builtin id) = pure (.type "method_descriptor")) (hm:MtR X id r) (ho:PE X o to)
  (hbase:attributeBase o name X.env (eval o X.env) = eval o X.env:=by rfl) (hline:(apos.endLine == cpos.line) = true:=by rfl):PE X (.Call (.Attribute o name apos) [] [] cpos) (AfC X.K T r to):=by
 intro pins s σ H Q I h
 refine wpAny_Call_method0_late hbase hline (thn (ho pins s σ H _ I h) fun v s1 ⟨x,H1,I1,r1,ty,q1⟩=>?_)
 obtain ⟨h1,h2⟩:=Abu I1 r1 ty
 exact ⟨T,id,pa,slot,hty,h1,h2,Calls.callWith_builtin rfl (PySem.evalArgs_none (hm pins s1 σ H1 x [] v [] Q I1 r1 .nil q1))⟩
theorem Jc (pa:PlainAttrs T) (slot:Slot T name id) (hty:typeOf (.builtin id) = pure (.type "method_descriptor")) (hm:MtR X id r) (ho:PE X o to) (ha:PA X (e :: es) t)
  (hbase:attributeBase o name X.env (eval o X.env) = eval o X.env:=by rfl)
  (hfew:((backTo cpos (starEach (e :: es) X.env)).all (fun x=>!x.1) && (backToKw cpos (keywordEach [] X.env)).all (fun x=>x.1.isSome)
   && decide ((e :: es).length + ([]:List Keyword).length + (if ([]:List Keyword).isEmpty then 0 else 1) < 30)) = true:=by rfl)
  (hline:(apos.endLine == cpos.line) = true:=by rfl) (hs:starEach (e :: es) X.env = (false,eval e X.env) :: starEach es X.env:=by rfl) (hplain:(backTo cpos (starEach es X.env)).any (·.1) = false:=by rfl) :
  PE X (.Call (.Attribute o name apos) (e :: es) [] cpos) (tBM X.K T r to t):=by
 intro pins s σ H Q I h
 refine wpAny_Call_method_late hbase hfew hline rfl (thn (ho pins s σ H _ I h) fun v s1 ⟨x,H1,I1,r1,ty,q1⟩=>?_)
 obtain ⟨h1,h2⟩:=Abu I1 r1 ty
 refine ⟨T,id,pa,slot,hty,h1,h2,?_⟩
 have hA:=ha cpos pins s1 σ H1 _ I1 q1
 rw [hs] at hA ⊢
 refine Calls.callWith_builtin (by show (false || (backTo cpos (starEach es X.env)).any (·.1)) = false; rw [hplain] <;> rfl) (Calls.evalArgs_plain ?_)
 exact thn hA fun us s2 ⟨vs,H2,I2,r2,q2⟩=>hm pins s2 σ H2 x vs v us Q I2 r1 r2 q2
end
end L2
namespace L2
open PySem PySem.Spec PyProof.Rows
def MtM (X:Cx) (id:String) (r:V->List V->Hp->VK->Prop):Prop :=
 ∀ (pins:List (Addr × Obj)) (s:Shared) (σ:St) (H:Hp) (x:V) (xs:List V) (v:Value) (us:List Value) (Q:VK),Inv X pins σ H s->RelV x v->Vals xs us->r x xs H Q ->
  wpAny (model X.prog X.w) X.A (call (.builtin id) (v :: us)) (EP X pins σ Q) X.xe s
theorem Vals.one:∀ {x:V} {us:List Value},Vals [x] us->∃ u,us = [u]/\RelV x u
 | _,_,.cons r .nil=>⟨_,rfl,r⟩
theorem Vals.zero:∀ {us:List Value},Vals [] us->us = []
 | _,.nil=>rfl
section
variable {X:Cx} {pins:List (Addr × Obj)} {σ:St} {H:Hp} {s:Shared} {l b:Addr} {xs ys zs:List V}
theorem Inv.lset {its its':List Value} {n:Nat} {f:Array Value->Array Value} {t':Nat} (I:Inv X pins σ H s) (hH:H l = some (.lst xs))
  (e:s.heap.get? l = some { cls:=.type "list",data:=.seq its.toArray n }) (hf:f its.toArray = its'.toArray) (hv:Vals ys its') (hz:ys.length <= sizeLine) :
  Inv X pins σ (upd H l (.lst ys)) { s with heap:=s.heap.update l (Obj.mapSeq f),toks:=t' }:=by
 have q:=PySem.IsL.update e f
 rw [hf] at q
 refine I.write (x:=l) (e:=l) (by rw [hH]; exact trivial) (.inl rfl) (fun b' u hb hu=>(Heap.get?_update_other s.heap (Obj.mapSeq f) (Ne.symm hb)).trans hu) ⟨_,q⟩ ?_
 exact ⟨hz,its',_,hv,q⟩
theorem Inv.lnew {its:List Value} {t':Nat} (I:Inv X pins σ H s) (hv:Vals ys its) (hz:ys.length <= sizeLine) :
  Inv X pins σ (upd H s.heap.objs.size (.lst ys)) { s with heap:=s.heap.push { cls:=.type "list",data:=.seq its.toArray },toks:=t' } :=
 I.laid (fun _ _ q=>Heap.get?_push_of_some _ q) (Nat.le_refl _) ⟨hz,its,0,hv,Heap.get?_push_size _ rfl⟩
theorem Inv.fresh (I:Inv X pins σ H s):H s.heap.objs.size = none:=I.hok.fresh (Nat.le_refl _)
theorem Inv.lstM (I:Inv X pins σ H s) (hH:H l = some (.lst xs)):xs.length <= sizeLine/\∃ (its:List Value) (n:Nat),Vals xs its/\xs.length = its.length/\s.heap.get? l = some { cls:=.type "list",data:=.seq its.toArray n }:=by
 obtain ⟨z,its,n,r,e⟩:=I.hok l _ hH
 exact ⟨z,its,n,r,r.length,e⟩
end
section
variable {X:Cx}
def AeH:V->List V->Hp->VK->Prop:=fun x vs H Q=>∃ l xs y,x = .ref l/\vs = [y]/\H l = some (.lst xs)/\xs.length < sizeLine/\Q .non (upd H l (.lst (xs ++ [y])))
theorem Uj:MtM X "list.append" AeH:=by
 intro pins s σ H x vs v us Q I rx rv h
 obtain ⟨l,xs,y,rfl,rfl,hH,hz,q⟩:=h
 cases rx
 obtain ⟨u,rfl,ru⟩:=rv.one
 obtain ⟨z,its,n,r,hl,e⟩:=I.lstM hH
 refine call_meets F.slot_list_append ⟨_,e,rfl⟩ F.entry_list_append (F.args_list_append_2 _ _) (PySem.list_append l its.toArray n u (by rw [List.size_toArray]; omega)) ⟨e,?_⟩
 refine ⟨.non,_,I.lset (its':=its ++ [u]) hH e (by simp) (r.append (.cons ru .nil)) ?_,rfl,q⟩
 rw [List.length_append,List.length_singleton]
 omega
def Ag4:V->List V->Hp->VK->Prop:=fun x vs H Q=>∃ l xs,x = .ref l/\vs = []/\H l = some (.lst xs)/\Q .non (upd H l (.lst []))
theorem Ab0:MtM X "list.clear" Ag4:=by
 intro pins s σ H x vs v us Q I rx rv h
 obtain ⟨l,xs,rfl,rfl,hH,q⟩:=h
 cases rx
 have hus:=rv.zero
 subst hus
 obtain ⟨z,its,n,r,hl,e⟩:=I.lstM hH
 refine call_meets F.slot_list_clear ⟨_,e,rfl⟩ F.entry_list_clear (F.args_list_clear_1 _) (AutoSeq1.list_clear_list_0 l its.toArray n (by rw [List.size_toArray]; omega)) ⟨e,?_⟩
 exact ⟨.non,_,I.lset (its':=[]) (ys:=[]) hH e rfl .nil (Nat.zero_le _),rfl,q⟩
def AiT:R2:=fun x y H Q=>∃ l b xs zs,x = .ref l/\y = .ref b/\H l = some (.lst xs)/\H b = some (.lst zs)/\xs.length + zs.length <= sizeLine/\∀ p,H p = none->Q (.ref p) (upd H p (.lst (xs ++ zs)))
theorem Afx:OpR X (binaryOp .Add) AiT:=by
 intro pins s σ H x y v u Q I rx ry h
 obtain ⟨l,b,xs,zs,rfl,rfl,hH,hB,hz,q⟩:=h
 cases rx
 cases ry
 obtain ⟨z,its,n,r,hl,e⟩:=I.lstM hH
 obtain ⟨z2,its2,n2,r2,hl2,e2⟩:=I.lstM hB
 refine PySem.P.add_list e e2 ?_ (by rw [List.size_toArray,List.size_toArray]; omega)
 have ea:its.toArray ++ its2.toArray = (its ++ its2).toArray:=by simp
 rw [ea]
 exact ⟨.ref _,_,I.lnew (t':=s.toks) (r.append r2) (by rw [List.length_append]; omega),rfl,q _ I.fresh⟩
end
section
variable {prog:Program} {w:World} {A:Around} {E:Value->Shared->Prop} {s:Shared}
set_option maxRecDepth 100000 in
end
section
variable {X:Cx}
end
end L2
namespace L2
open PySem PySem.Spec PyProof.Rows
section
variable {κ:Type} [DecidableEq κ]
def Cg (kvs:List (κ × V)) (k:κ):Option V:=(kvs.find? fun kv=>decide (kv.1 = k)).map (·.2)
def Fn (kvs:List (κ × V)) (k:κ) (v:V):List (κ × V) :=
 if (kvs.any fun kv=>decide (kv.1 = k)) = true then kvs.map (fun kv=>if kv.1 = k then (kv.1,v) else kv) else kvs ++ [(k,v)]
theorem Lh {p:κ × V} {r:List (κ × V)} {k:κ} (e:p.1 = k):Cg (p :: r) k = some p.2:=by simp [Cg,List.find?_cons,e]
theorem Li {p:κ × V} {r:List (κ × V)} {k:κ} (e:¬ p.1 = k):Cg (p :: r) k = Cg r k:=by simp [Cg,List.find?_cons,e]
theorem Ox (k:κ):∀ kvs:List (κ × V),(kvs.any fun kv=>decide (kv.1 = k)) = (Cg kvs k).isSome
 | []=>rfl
 | p :: r=>by
  rw [List.any_cons]
  by_cases e:p.1 = k
  ·simp only [Lh e,decide_eq_true e,Bool.true_or,Option.isSome_some]
  ·rw [Li e,decide_eq_false e,Bool.false_or]; exact Ox k r
theorem Rn (kvs:List (κ × V)) (k:κ) (v:V):(Fn kvs k v).length <= kvs.length + 1:=by
 unfold Fn
 split
 ·rw [List.length_map]; omega
 ·rw [List.length_append,List.length_cons,List.length_nil]; omega
theorem Gr {kvs:List (κ × V)} {k:κ} (v:V) (h:Cg kvs k = none):Fn kvs k v = kvs ++ [(k,v)]:=by
 unfold Fn
 rw [Ox,h]
 exact if_neg (by decide)
theorem RelO.isSome_eq {o:Option V} {u:Option Value} (r:RelO o u):o.isSome = u.isSome:=by
 cases o with
 | none=>cases u with
  | none=>rfl
  | some _=>exact (show False from r).elim
 | some _=>cases u with
  | none=>exact (show False from r).elim
  | some _=>rfl
theorem RelO.getD {o:Option V} {u:Option Value} {d:V} {d':Value} (r:RelO o u) (rd:RelV d d'):RelV (o.getD d) (u.getD d'):=by
 cases o with
 | none=>cases u with
  | none=>exact rd
  | some _=>exact (show False from r).elim
 | some _=>cases u with
  | none=>exact (show False from r).elim
  | some _=>exact r
theorem KV.val {kvs:List (κ × V)} {vs:List (κ × Value)} (r:KV kvs vs) (k:κ):RelO (Cg kvs k) (valueAt vs k):=by
 unfold KV at r
 induction r with
 | nil=>exact True.intro
 | @cons p q ps qs h t ih =>
  obtain ⟨h1,h2⟩:=h
  by_cases e:p.1 = k
  ·have e':q.1 = k:=h1.symm.trans e
   have b:valueAt (q :: qs) k = some q.2:=by simp [valueAt,List.find?_cons,e']
   rw [Lh e,b]; exact h2
  ·have e':¬ q.1 = k:=fun z=>e (h1.trans z)
   have b:valueAt (q :: qs) k = valueAt qs k:=by simp [valueAt,List.find?_cons,e']
   rw [Li e,b]; exact ih
theorem KV.any {kvs:List (κ × V)} {vs:List (κ × Value)} (r:KV kvs vs) (k:κ):(kvs.any fun kv=>decide (kv.1 = k)) = vs.any fun kv=>decide (kv.1 = k):=by
 unfold KV at r
 induction r with
 | nil=>rfl
 | cons h t ih=>rw [List.any_cons,List.any_cons,ih,h.1]
theorem KV.repl {kvs:List (κ × V)} {vs:List (κ × Value)} (r:KV kvs vs) (k:κ) {y:V} {u:Value} (ry:RelV y u) :
  KV (kvs.map fun kv=>if kv.1 = k then (kv.1,y) else kv) (vs.map fun kv=>if kv.1 = k then (kv.1,u) else kv):=by
 unfold KV at r ⊢
 induction r with
 | nil=>exact .nil
 | @cons p q ps qs h t ih =>
  rw [List.map_cons,List.map_cons]
  refine .cons ?_ ih
  obtain ⟨h1,h2⟩:=h
  by_cases e:p.1 = k
  ·rw [if_pos e,if_pos (h1.symm.trans e)]; exact ⟨h1,ry⟩
  ·rw [if_neg e,if_neg (fun z=>e (h1.trans z))]; exact ⟨h1,h2⟩
theorem KV.put {kvs:List (κ × V)} {vs:List (κ × Value)} (r:KV kvs vs) (k:κ) {y:V} {u:Value} (ry:RelV y u):KV (Fn kvs k y) (stored vs k u):=by
 unfold Fn stored
 rw [r.any k]
 by_cases e:(vs.any fun kv=>decide (kv.1 = k)) = true
 ·rw [if_pos e,if_pos e]; exact r.repl k ry
 ·rw [if_neg e,if_neg e]; exact Paired.snoc r ⟨rfl,ry⟩
theorem KV.keys {kvs:List (κ × V)} {vs:List (κ × Value)} (r:KV kvs vs):kvs.map (·.1) = vs.map (·.1):=by
 unfold KV at r
 induction r with
 | nil=>rfl
 | cons h t ih=>rw [List.map_cons,List.map_cons,ih,h.1]
theorem KV.length {kvs:List (κ × V)} {vs:List (κ × Value)} (r:KV kvs vs):kvs.length = vs.length:=Paired.length r
end
theorem Rg {P:Program} {w:World} {k:Key} {u:Value} (r:RelV (kV k) u):(Cs P w).is k u = true:=by
 cases k with
 | inl i=>obtain ⟨t,e⟩:=(show ∃ t,u = Value.int i t from r); subst e; exact Ws P w i t
 | inr x=>obtain ⟨t,e⟩:=(show ∃ t,u = Value.str x t from r); subst e; exact Ww P w x t
theorem Ui {P:Program} {w:World}:∀ {ks:List Key} {us:List Value},Vals (ks.map kV) us->ItemsAre (Cs P w) ks us
 | [],_,r=>by rw [List.map_nil] at r; cases r; exact .nil
 | k :: ks,_,r=>by
  rw [List.map_cons] at r
  cases r with
  | cons h t=>exact .cons (Rg h) (Ui t)
abbrev KT (H:Hp):List (List Key × V)->List (List Key × Addr × Value)->Prop:=Paired fun p q=>p.1 = q.1/\H q.2.1 = some (.tup (p.1.map kV))/\RelV p.2 q.2.2
theorem KT.val {H:Hp} {kvs:List (List Key × V)} {xs:List (List Key × Addr × Value)} (r:KT H kvs xs) (k:List Key):RelO (Cg kvs k) ((atKey xs k).map (·.2)):=by
 induction r with
 | nil=>exact True.intro
 | @cons p q ps qs h t ih =>
  obtain ⟨h1,_,h2⟩:=h
  by_cases e:p.1 = k
  ·have e':q.1 = k:=h1.symm.trans e
   have b:atKey (q :: qs) k = some q.2:=by simp [atKey,List.find?_cons,e']
   rw [Lh e,b]; exact h2
  ·have e':¬ q.1 = k:=fun z=>e (h1.trans z)
   have b:atKey (q :: qs) k = atKey qs k:=by simp [atKey,List.find?_cons,e']
   rw [Li e,b]; exact ih
theorem KT.repl {H:Hp} {kvs:List (List Key × V)} {xs:List (List Key × Addr × Value)} (r:KT H kvs xs) (k:List Key) {y:V} {u:Value} (ry:RelV y u) :
  KT H (kvs.map fun kv=>if kv.1 = k then (kv.1,y) else kv) (xs.map (putAt k u)):=by
 induction r with
 | nil=>exact .nil
 | @cons p q ps qs h t ih =>
  rw [List.map_cons,List.map_cons]
  refine .cons ?_ ih
  obtain ⟨h1,h2,h3⟩:=h
  unfold putAt
  by_cases e:p.1 = k
  ·rw [if_pos e,if_pos (h1.symm.trans e)]; exact ⟨h1,h2,ry⟩
  ·rw [if_neg e,if_neg (fun z=>e (h1.trans z))]; exact ⟨h1,h2,h3⟩
theorem KT.put {H:Hp} {kvs:List (List Key × V)} {xs:List (List Key × Addr × Value)} (r:KT H kvs xs) (k:List Key) {b:Addr} {y:V} {u:Value} (hb:H b = some (.tup (k.map kV))) (ry:RelV y u) :
  KT H (Fn kvs k y) (storedH xs k b u):=by
 have e:(kvs.any fun kv=>decide (kv.1 = k)) = (atKey xs k).isSome:=by
  rw [Ox,(r.val k).isSome_eq,Option.isSome_map]
 unfold Fn storedH
 rw [e]
 by_cases q:(atKey xs k).isSome = true
 ·rw [if_pos q,if_pos q]; exact r.repl k ry
 ·rw [if_neg q,if_neg q]; exact Paired.snoc r ⟨rfl,hb,ry⟩
theorem KT.keeps {H H':Hp} {kvs:List (List Key × V)} {xs:List (List Key × Addr × Value)} (r:KT H kvs xs) (ht:∀ b ys,H b = some (.tup ys)->H' b = some (.tup ys)):KT H' kvs xs :=
 Paired.mapP r fun _ _ z=>⟨z.1,ht _ _ z.2.1,z.2.2⟩
section
variable {P:Program} {w:World} {H:Hp} {h:Heap} {a:Addr}
theorem Adl {u:HO} (ok:HOk P w H h) (e:Rd H a u):ObjOk P w H h a u:=e.ok ok
theorem Nl {kvs:List (Key × V)} (ok:HOk P w H h) (e:Rd H a (.dK kvs)):kvs.length <= sizeLine/\(a == sysModules) = false/\∃ vs,KV kvs vs/\h.DictOf (Cs P w) a vs :=
 show ObjOk P w H h a (.dK kvs) from Adl ok e
theorem Ah5 {kvs:List (Key × V)} (ok:HOk P w H h) (e:H a = some (.dK kvs)):kvs.length <= sizeLine/\(a == sysModules) = false/\∃ vs,KV kvs vs/\h.DictOf (Cs P w) a vs:=Nl ok (.inl e)
theorem Ly {ks:List Key} (ok:HOk P w H h) (e:H a = some (.tup (ks.map kV))):(tupleKind (Cs P w)).is h ks a:=by
 obtain ⟨_,its,r,o,h1,h2,n,h3⟩:=(show ObjOk P w H h a (.tup (ks.map kV)) from ok a _ e)
 exact ⟨o,its.toArray,n,h1,h2,h3,by simpa using Ui r⟩
theorem Nj {kvs:List (List Key × V)} (ok:HOk P w H h) (e:Rd H a (.dT kvs)):kvs.length <= sizeLine/\(a == sysModules) = false /\
  ∃ xs,KT H kvs xs/\h.DictOfH (tupleKind (Cs P w)) a xs:=by
 obtain ⟨z,y,xs,r,o,es,ep,h1,h2,h3,h4,h5⟩:=(show ObjOk P w H h a (.dT kvs) from Adl ok e)
 refine ⟨z,y,xs,r,o,es,ep,h1,h2,h3,h4,fun x hx=>?_,h5⟩
 have all:∀ {l:List (List Key × V)} {m:List (List Key × Addr × Value)},KT H l m->∀ x ∈ m,(tupleKind (Cs P w)).is h x.1 x.2.1:=by
  intro l m q
  induction q with
  | nil=>intro x hx; exact nomatch hx
  | @cons p q ps qs hq t ih =>
   intro x hx
   rcases List.mem_cons.mp hx with e | hx
   ·subst e
    exact Ly ok (by rw [<- hq.1]; exact hq.2.1)
   ·exact ih x hx
 exact all r x hx
theorem AhC {kvs:List (List Key × V)} (ok:HOk P w H h) (e:H a = some (.dT kvs)):kvs.length <= sizeLine/\(a == sysModules) = false /\
  ∃ xs,KT H kvs xs/\h.DictOfH (tupleKind (Cs P w)) a xs:=Nj ok (.inl e)
end
def DGet (H:Hp) (a:Addr) (y:V) (r:Option V):Prop :=
 (∃ kvs k,Rd H a (.dK kvs)/\y = kV k/\r = Cg kvs k)\/∃ kvs k b,Rd H a (.dT kvs)/\y = .ref b/\H b = some (.tup (k.map kV))/\r = Cg kvs k
def DPut (H:Hp) (a:Addr) (y v:V) (H':Hp):Prop :=
 (∃ kvs k,H a = some (.dK kvs)/\y = kV k/\kvs.length < sizeLine/\H' = upd H a (.dK (Fn kvs k v))) \/
 ∃ kvs k b,H a = some (.dT kvs)/\y = .ref b/\H b = some (.tup (k.map kV))/\kvs.length < sizeLine/\H' = upd H a (.dT (Fn kvs k v))
theorem DGet.k {H:Hp} {a:Addr} {kvs:List (Key × V)} {k:Key} (e:H a = some (.dK kvs)):DGet H a (kV k) (Cg kvs k):=.inl ⟨kvs,k,.inl e,rfl,rfl⟩
theorem DGet.t {H:Hp} {a b:Addr} {kvs:List (List Key × V)} {k:List Key} (e:H a = some (.dT kvs)) (eb:H b = some (.tup (k.map kV))):DGet H a (.ref b) (Cg kvs k):=.inr ⟨kvs,k,b,.inl e,rfl,eb,rfl⟩
theorem DPut.k {H:Hp} {a:Addr} {kvs:List (Key × V)} {k:Key} {v:V} (e:H a = some (.dK kvs)) (hl:kvs.length < sizeLine):DPut H a (kV k) v (upd H a (.dK (Fn kvs k v))):=.inl ⟨kvs,k,e,rfl,hl,rfl⟩
theorem DPut.t {H:Hp} {a b:Addr} {kvs:List (List Key × V)} {k:List Key} {v:V} (e:H a = some (.dT kvs)) (eb:H b = some (.tup (k.map kV))) (hl:kvs.length < sizeLine) :
  DPut H a (.ref b) v (upd H a (.dT (Fn kvs k v))):=.inr ⟨kvs,k,b,e,rfl,eb,hl,rfl⟩
section
variable {X:Cx} {pins:List (Addr × Obj)} {σ:St} {H:Hp} {s:Shared} {a:Addr} {y v:V} {u r:Value} {o:Option V} {A:Around} {E:Value->Shared->Prop}
theorem Inv.big (I:Inv X pins σ H s):sysModules < s.heap.objs.size:=by
 have h:mainGlobals < s.heap.objs.size:=(I.mod.glob.keeps I.bk).lt
 exact Nat.lt_trans (by decide) h
theorem AaR {Q:Value->Shared->Prop} (hu:A.units + 1 < cLine) (I:Inv X pins σ H s) (g:DGet H a y (some v)) (ry:RelV y u) (h:∀ w' s',Inv X pins σ H s'->RelV v w'->Q w' s') :
  wpAny (model X.prog X.w) A (getItem (.ref a) u) Q E s:=by
 rcases g with ⟨kvs,k,e,ey,l⟩ | ⟨kvs,k,b,e,ey,eb,l⟩
 ·subst ey
  obtain ⟨z,hd,vs,rel,dd⟩:=Nl I.hok e
  obtain ⟨w',hw,rw'⟩:=RelO.some_of (v:=v) (o:=valueAt vs k) (by rw [l]; exact rel.val k)
  exact wpAny_getItem_of (Rg ry) dd.mapOf hw (h w' _ (I.tok _) rw')
 ·subst ey
  cases (show u = Value.ref b from ry)
  obtain ⟨z,hd,xs,rel,dd⟩:=Nj I.hok e
  obtain ⟨w',hw,rw'⟩:=RelO.some_of (v:=v) (o:=(atKey xs k).map (·.2)) (by rw [l]; exact rel.val k)
  obtain ⟨p,hp,hp2⟩:=Option.map_eq_some_iff.mp hw
  refine wpAny_getItem_heap (tupleKind_room_in1 hu) (Ly I.hok eb) dd hp ?_
  rw [hp2]
  exact h w' _ (I.tok _) rw'
theorem AiK {Q:Value->Shared->Prop} (hu:A.units + 1 < cLine) (I:Inv X pins σ H s) (g:DGet H a y o) (ry:RelV y u) (h:∀ s',Inv X pins σ H s'->Q (.bool o.isSome) s') :
  wpAny (model X.prog X.w) A (compareOp .In u (.ref a)) Q E s:=by
 rcases g with ⟨kvs,k,e,ey,l⟩ | ⟨kvs,k,b,e,ey,eb,l⟩
 ·subst ey
  obtain ⟨z,hd,vs,rel,dd⟩:=Nl I.hok e
  refine wpAny_in_of (Rg ry) hd dd.mapOf ?_
  rw [<- (rel.val k).isSome_eq,<- l]
  exact h _ (I.tok _)
 ·subst ey
  cases (show u = Value.ref b from ry)
  obtain ⟨z,hd,xs,rel,dd⟩:=Nj I.hok e
  refine wpAny_in_heap (tupleKind_room_in1 hu) (Ly I.hok eb) hd dd ?_
  have q:=(rel.val k).isSome_eq
  rw [Option.isSome_map] at q
  rw [<- q,<- l]
  exact h _ (I.tok _)
theorem AeB {Q:Value->Shared->Prop} (hu:A.units + 1 < cLine) (I:Inv X pins σ H s) (g:DGet H a y o) (ry:RelV y u) (h:∀ s',Inv X pins σ H s'->Q (.bool (!o.isSome)) s') :
  wpAny (model X.prog X.w) A (compareOp .NotIn u (.ref a)) Q E s:=by
 rcases g with ⟨kvs,k,e,ey,l⟩ | ⟨kvs,k,b,e,ey,eb,l⟩
 ·subst ey
  obtain ⟨z,hd,vs,rel,dd⟩:=Nl I.hok e
  refine wpAny_notIn_of (Rg ry) hd dd.mapOf ?_
  rw [<- (rel.val k).isSome_eq,<- l]
  exact h _ (I.tok _)
 ·subst ey
  cases (show u = Value.ref b from ry)
  obtain ⟨z,hd,xs,rel,dd⟩:=Nj I.hok e
  refine wpAny_notIn_heap (tupleKind_room_in1 hu) (Ly I.hok eb) hd dd ?_
  have q:=(rel.val k).isSome_eq
  rw [Option.isSome_map] at q
  rw [<- q,<- l]
  exact h _ (I.tok _)
theorem Yh {h':Heap} {t':Nat} {ob:HO} (I:Inv X pins σ H s) (mu:Mut (H a)) (hs:Heap.SameBut a s.heap h') (he:∃ q,h'.get? a = some q) (new:ObjOk X.prog X.w (upd H a ob) h' a ob) :
  Inv X pins σ (upd H a ob) { s with heap:=h',toks:=t' } :=
 I.write (x:=a) (e:=a) mu (.inl rfl) (fun b q hb z=>(hs.2 b hb).trans z) he new
theorem Afr {P:Program} {w:World} {H':Hp} {h':Heap} {kvs:List (Key × V)} {vs:List (Key × Value)} (z:kvs.length <= sizeLine) (hd:(a == sysModules) = false) (rel:KV kvs vs) (dd:h'.DictOf (Cs P w) a vs) :
  ObjOk P w H' h' a (.dK kvs):=⟨z,hd,vs,rel,dd⟩
theorem AaS {H':Hp} {Q:Unit->Shared->Prop} (hu:A.units + 1 < cLine) (I:Inv X pins σ H s) (g:DPut H a y v H') (ry:RelV y u) (rv:RelV v r) (h:∀ s',Inv X pins σ H' s'->Q () s') :
  wpAny (model X.prog X.w) A (setItem (.ref a) u r) Q E s:=by
 rcases g with ⟨kvs,k,e,ey,l,eH⟩ | ⟨kvs,k,b,e,ey,eb,l,eH⟩
 ·subst ey eH
  obtain ⟨z,hd,vs,rel,dd⟩:=Ah5 I.hok e
  have hz:vs.length <= sizeLine:=by rw [<- rel.length]; exact z
  have hl:(Fn kvs k v).length <= sizeLine:=by have:=Rn kvs k v; omega
  refine wpAny_setItem_pairs (hsz:=hz) (Rg ry) dd fun h' dd' hs=>h _ ?_
  have he:∃ q,h'.get? a = some q:=let ⟨q,_,_,hq,_⟩:=dd'; ⟨q,hq⟩
  exact Yh I (by rw [e]; exact True.intro) hs he (Afr hl hd (rel.put k rv) dd')
 ·subst ey eH
  cases (show u = Value.ref b from ry)
  obtain ⟨z,hd,xs,rel,dd⟩:=AhC I.hok e
  have hz:xs.length <= sizeLine:=by rw [<- Paired.length rel]; exact z
  have hl:(Fn kvs k v).length <= sizeLine:=by have:=Rn kvs k v; omega
  refine wpAny_setItem_heap (hsz:=hz) (tupleKind_room_in1 hu) (Ly I.hok eb) dd fun h' dd' hs=>h _ ?_
  obtain ⟨q,es,ep,hq,h2,h3,h4,_,h5⟩:=dd'
  refine Yh I (by rw [e]; exact True.intro) hs ⟨q,hq⟩ ⟨hl,hd,_,(rel.put k eb rv).keeps fun c ys ec=>?_,q,es,ep,hq,h2,h3,h4,h5⟩
  rw [Bi (Dc ec e (fun z=>nomatch z))]
  exact ec
end
section
variable {X:Cx} {pins:List (Addr × Obj)} {σ:St} {H:Hp} {s:Shared} {a:Addr} {kvs:List (Key × V)} {k:Key} {u:Value} {A:Around} {E:Value->Shared->Prop}
end
def AgD (i:Expr):Prop:=∀ ov iv,subscripted i false ov iv = operate [ov,iv] (getItem ov iv)
theorem Afh {prog:Program} {w:World} {A:Around} {E:Value->Shared->Prop} {s:Shared} {env:Env} {value slice:Expr} {pos:Pos} {T id:String} {Q:Value->Shared->Prop}
  (hl:typeLookup (.type T) "__getitem__" = pure (some (.builtin id))) (hs:AgD slice)
  (h:wpAny (model prog w) A (eval value env) (fun o s₁=>wpAny (model prog w) A (eval slice env) (fun i s₂=>s₂.TypeIs o T/\wpAny (model prog w) A (getItem o i) Q E s₂) E s₁) E s) :
  wpAny (model prog w) A (eval (.Subscript value slice pos) env) Q E s:=by
 refine Subscript_ (wpAny_mono h (fun o s₁ h₁=>wpAny_mono h₁ (fun i s₂ h₂=>?_) fun _ _ x=>x) fun _ _ x=>x)
 obtain ⟨hT,h₂⟩:=h₂
 unfold subscriptTail
 refine wpAny_bind ?_
 rw [getitemInPython_of_ne hT.not_modules]
 refine wpAny_bind (wpAny_specialOf hT hl ?_)
 have fin:wpAny (model prog w) A (subscripted slice false o i) (fun r s₃=>wpAny (model prog w) A (letTemporaryGo value o r >>= fun _=>pure r) Q E s₃) E s₂:=by
  rw [hs o i]
  exact wpAny_operating (wpAny_mono h₂ (fun r s₃ h₃=>wpAny_bind (wpAny_letTemporaryGo (wpAny_pure h₃))) fun _ _ x=>x)
 first
  | exact wpAny_pure (wpAny_bind fin)
  | exact wpAny_bind (wpAny_pure (wpAny_bind fin))
  | exact wpAny_bind fin
theorem Wq {X:Cx} {pins:List (Addr × Obj)} {σ:St} {H:Hp} {s:Shared} {a:Addr} {y:V} {o:Option V} (I:Inv X pins σ H s) (g:DGet H a y o):s.TypeIs (.ref a) "dict":=by
 rcases g with ⟨kvs,k,e,_,_⟩ | ⟨kvs,k,b,e,_,_,_⟩
 ·obtain ⟨_,_,vs,_,dd⟩:=Nl I.hok e
  exact dd.typeIs
 ·obtain ⟨_,_,xs,_,dd⟩:=Nj I.hok e
  exact dd.typeIs
def Yx (td ty:TE):TE:=fun σ H Q=>td σ H fun x H1=>ty σ H1 fun y H2=>∃ a v,x = .ref a/\DGet H2 a y (some v)/\Q v H2
def Agh (ty td:TE):TE:=fun σ H Q=>ty σ H fun y H1=>td σ H1 fun x H2=>∃ a o,x = .ref a/\DGet H2 a y o/\Q (.bl o.isSome) H2
def Xr (ty td:TE):TE:=fun σ H Q=>ty σ H fun y H1=>td σ H1 fun x H2=>∃ a o,x = .ref a/\DGet H2 a y o/\Q (.bl (!o.isSome)) H2
def Yr (td ty tv:TE):TS:=fun D σ H=>tv σ H fun v H1=>td σ H1 fun x H2=>ty σ H2 fun y H3=>∃ a H4,x = .ref a/\DPut H3 a y v H4/\D.nx σ H4
section
variable {X:Cx} {o i e value:Expr} {pos pos' tpos:Pos} {td ty tv:TE}
theorem Qy (hu:X.A.units + 1 < cLine) (ho:PE X o td) (hi:PE X i ty) (hs:AgD i):PE X (.Subscript o i pos) (Yx td ty):=by
 intro pins s σ H Q I h
 refine Afh PySem.F.slot_dict_getitem.lookup hs (thn (ho pins s σ H _ I h) fun u s1 ⟨x,H1,I1,rx,q1⟩=>thn (hi pins s1 σ H1 _ I1 q1) fun iv s2 ⟨y,H2,I2,ry,a,v,ex,g,q2⟩=>?_)
 subst ex
 obtain rfl:u = Value.ref a:=rx
 exact ⟨Wq I2 g,AaR hu I2 g ry fun w' s3 I3 rw'=>⟨v,H2,I3,rw',q2⟩⟩
theorem AfX (hu:X.A.units + 1 < cLine) (hi:PE X i ty) (ho:PE X o td):PC X .In i o (Agh ty td):=by
 intro pins s σ H Q I h
 refine thn (hi pins s σ H _ I h) fun iv s1 ⟨y,H1,I1,ry,q1⟩=>thn (ho pins s1 σ H1 _ I1 q1) fun u s2 ⟨x,H2,I2,rx,a,ov,ex,g,q2⟩=>?_
 subst ex
 obtain rfl:u = Value.ref a:=rx
 exact AiK hu I2 g ry fun s3 I3=>⟨.bl ov.isSome,H2,I3,rfl,q2⟩
theorem Ln (hu:X.A.units + 1 < cLine) (hi:PE X i ty) (ho:PE X o td):PC X .NotIn i o (Xr ty td):=by
 intro pins s σ H Q I h
 refine thn (hi pins s σ H _ I h) fun iv s1 ⟨y,H1,I1,ry,q1⟩=>thn (ho pins s1 σ H1 _ I1 q1) fun u s2 ⟨x,H2,I2,rx,a,ov,ex,g,q2⟩=>?_
 subst ex
 obtain rfl:u = Value.ref a:=rx
 exact AeB hu I2 g ry fun s3 I3=>⟨.bl (!ov.isSome),H2,I3,rfl,q2⟩
theorem Gp (hu:X.A.units + 1 < cLine) (ho:PE X o td) (hi:PE X i ty) (hv:PE X value tv) (hs:swapsWith value (some (.Subscript o i pos')) pos.line X.env = pure false) :
  PS X (.Assign [.Subscript o i pos'] value pos) (Yr td ty tv):=by
 intro pins s σ H D I h
 refine wpAny_Assign_Subscript (thn (hv pins s σ H _ I h) fun r s1 ⟨v,H1,I1,rv,q1⟩=>thn (ho pins s1 σ H1 _ I1 q1) fun u s2 ⟨x,H2,I2,rx,q2⟩=>thn (hi pins s2 σ H2 _ I2 q2) fun iv s3 ⟨y,H3,I3,ry,a,H4,ex,g,q3⟩=>?_) hs
 subst ex
 obtain rfl:u = Value.ref a:=rx
 exact AaS hu I3 g ry rv fun s4 I4=>⟨σ,H4,I4,q3⟩
end
theorem AcF {P:Program} {w:World} {H:Hp} (h:Heap) (hb:sysModules < h.objs.size):ObjOk P w H (h.push { cls:=.type "dict",data:=.dict #[] }) h.objs.size (.dK []) :=
 ⟨Nat.zero_le _,beq_eq_false_iff_ne.mpr (Ne.symm (Nat.ne_of_lt hb)),[],.nil,Heap.DictOf.new h⟩
theorem Acb {P:Program} {w:World} {H:Hp} (h:Heap) (hb:sysModules < h.objs.size):ObjOk P w H (h.push { cls:=.type "dict",data:=.dict #[] }) h.objs.size (.dT []) :=
 ⟨Nat.zero_le _,beq_eq_false_iff_ne.mpr (Ne.symm (Nat.ne_of_lt hb)),[],.nil,_,#[],0,Heap.get?_push_size _ rfl,⟨rfl,rfl,rfl⟩,rfl,rfl,List.nodup_nil⟩
def Wl:TE:=fun _ H Q=>∀ p,H p = none->Q (.ref p) (upd H p (.dK []))
def Aa1:TE:=fun _ H Q=>∀ p,H p = none->Q (.ref p) (upd H p (.dT []))
section
variable {X:Cx} {pos:Pos}
theorem Jw:PE X (.Dict [] [] pos) Wl:=fun pins s σ H Q I h =>
 wpAny_Dict_empty ⟨.ref s.heap.objs.size,_,I.laid (a:=s.heap.objs.size) (o:=.dK []) (t':=s.toks) (fun _ _ q=>Heap.get?_push_of_some _ q) (Nat.le_refl _) (AcF s.heap I.big),rfl,h _ (I.hok.fresh (Nat.le_refl _))⟩
theorem AcJ:PE X (.Dict [] [] pos) Aa1:=fun pins s σ H Q I h =>
 wpAny_Dict_empty ⟨.ref s.heap.objs.size,_,I.laid (a:=s.heap.objs.size) (o:=.dT []) (t':=s.toks) (fun _ _ q=>Heap.get?_push_of_some _ q) (Nat.le_refl _) (Acb s.heap I.big),rfl,h _ (I.hok.fresh (Nat.le_refl _))⟩
end
structure M2 (X:Cx) (o:Expr) (m:Str) (apos:Pos) (e f:Expr) (cpos:Pos):Prop where
 base:attributeBase o m X.env (eval o X.env) = eval o X.env
 few:((backTo cpos (starEach [e,f] X.env)).all (fun x=>!x.1) && (backToKw cpos (keywordEach [] X.env)).all (fun x=>x.1.isSome)
  && decide (([e,f]:List Expr).length + ([]:List Keyword).length + (if ([]:List Keyword).isEmpty then 0 else 1) < 30)) = true
 line:(apos.endLine == cpos.line) = true
 trees:backTo cpos (starEach [e,f] X.env) = [(false,eval e X.env),(false,eval f X.env)]
def IsD (H:Hp) (a:Addr):Prop:=(∃ kvs,Rd H a (.dK kvs))\/∃ kvs,Rd H a (.dT kvs)
theorem Agf {X:Cx} {pins:List (Addr × Obj)} {σ:St} {H:Hp} {s:Shared} {a:Addr} (I:Inv X pins σ H s) (d:IsD H a) :
  s.TypeIs (.ref a) "dict"/\(∀ b,Value.ref a = .ref b->∃ ob,s.heap.get? b = some ob/\ob.dict = none)/\(a == sysModules) = false:=by
 rcases d with ⟨kvs,e⟩ | ⟨kvs,e⟩
 ·obtain ⟨_,hd,vs,_,dd⟩:=Nl I.hok e
  refine ⟨dd.typeIs,fun b q=>?_,hd⟩
  cases q
  obtain ⟨ob,_,_,h1,h2,_⟩:=dd
  exact ⟨ob,h1,h2.2.1⟩
 ·obtain ⟨_,hd,xs,_,dd⟩:=Nj I.hok e
  refine ⟨dd.typeIs,fun b q=>?_,hd⟩
  cases q
  obtain ⟨ob,_,_,h1,h2,_⟩:=dd
  exact ⟨ob,h1,h2.2.1⟩
section
variable {X:Cx} {pins:List (Addr × Obj)} {σ:St} {H:Hp} {s:Shared} {a:Addr} {y d:V} {u r:Value} {o:Option V} {A:Around} {E:Value->Shared->Prop}
theorem AfJ {Q:Value->Shared->Prop} (hu:A.units + 1 < cLine) (I:Inv X pins σ H s) (g:DGet H a y o) (ry:RelV y u) (rd:RelV d r) (h:∀ w' s',Inv X pins σ H s'->RelV (o.getD d) w'->Q w' s') :
  wpAny (model X.prog X.w) A (call (.builtin "dict.get") [.ref a,u,r]) Q E s:=by
 rcases g with ⟨kvs,k,e,ey,l⟩ | ⟨kvs,k,b,e,ey,eb,l⟩
 ·subst ey
  obtain ⟨z,hd,vs,rel,dd⟩:=Nl I.hok e
  refine call_meetsIn PySem.F.slot_dict_get dd.typeIs PySem.F.entry_dict_get (PySem.F.args_dict_get_3 _ _ _) (meets_dict_get_default (Cs X.prog X.w) a (Rg ry) hd r) ⟨_,dd.mapOf,h _ _ (I.tok _) ?_⟩
  rw [l]
  exact (rel.val k).getD rd
 ·subst ey
  cases (show u = Value.ref b from ry)
  obtain ⟨z,hd,xs,rel,dd⟩:=Nj I.hok e
  refine call_meetsIn PySem.F.slot_dict_get dd.typeIs PySem.F.entry_dict_get (PySem.F.args_dict_get_3 _ _ _) (meetsH_dict_get_default (tupleKind (Cs X.prog X.w)) a b hd r) ⟨tupleKind_room_in1 hu,k,xs,Ly I.hok eb,dd,h _ _ (I.tok _) ?_⟩
  rw [l]
  exact (rel.val k).getD rd
end
def We (td ty tx:TE):TE:=fun σ H Q=>td σ H fun x H1=>∃ a,x = .ref a/\IsD H1 a/\ty σ H1 fun y H2=>tx σ H2 fun z H3=>∃ o,DGet H3 a y o/\Q (o.getD z) H3
section
variable {X:Cx} {o e f:Expr} {apos cpos:Pos} {td ty tx:TE}
theorem Ry (hu:X.A.units + 1 < cLine) (ho:PE X o td) (he:PE X e ty) (hf:PE X f tx) (m:M2 X o "get" apos e f cpos):PE X (.Call (.Attribute o "get" apos) [e,f] [] cpos) (We td ty tx):=by
 intro pins s σ H Q I h
 refine wpAny_Call_method m.base m.few m.line PySem.F.plainAttrs_dict PySem.F.slot_dict_get PySem.F.type_dict_get (thn (ho pins s σ H _ I h) fun u s1 ⟨x,H1,I1,rx,a,ex,d,q1⟩=>?_)
 subst ex
 obtain rfl:u = Value.ref a:=rx
 obtain ⟨t1,t2,_⟩:=Agf I1 d
 refine ⟨t1,t2,?_⟩
 rw [m.trees]
 refine Calls.callWith_builtin rfl (Calls.evalArgs_plain (Calls.spliced_cons (thn (he pins s1 σ H1 _ I1 q1) fun iv s2 ⟨y,H2,I2,ry,q2⟩ =>
  Calls.spliced_cons (thn (hf pins s2 σ H2 _ I2 q2) fun fv s3 ⟨z,H3,I3,rz,ov,g,q3⟩=>Calls.spliced_nil ?_))))
 exact AfJ hu I3 g ry rz fun w' s4 I4 rw'=>⟨_,H3,I4,rw',q3⟩
end
section
variable {X:Cx} {pins:List (Addr × Obj)} {σ:St} {H:Hp} {s:Shared} {a:Addr} {kvs:List (Key × V)} {A:Around} {E:Value->Shared->Prop}
end
section
variable {X:Cx} {pins:List (Addr × Obj)} {σ:St} {H:Hp} {s:Shared} {a:Addr} {y:V} {u:Value} {A:Around} {E:Value->Shared->Prop}
end
end L2
namespace Att
open PySem PySem.W PySem.Calls PyProof.Rows
theorem Su {P:Params} {h:Heap}:∀ (ns:List Int) (vs:List Value),WellAll P h vs (ns.map WData.int)->IntsAre vs ns:=by
 intro ns
 induction ns with
 | nil =>
  intro vs w
  rw [List.map_nil] at w
  cases w
  exact .nil
 | cons n ns ih =>
  intro vs w
  rw [List.map_cons] at w
  cases w with
  | cons a b =>
   cases a
   exact .cons _ _ (ih _ b)
theorem Aap {l:OpenLaw} {n:Nat} (hn:l.most = some n) {P:Params} {h:Heap} {args:List WData} {vals:List Value}
  (hpre:l.row.toRowW.claim.pre args = true) (hwl:WellAll P h vals args) :
  ∃ a vs ns,vals = [Value.ref a]/\args = [WData.list (ns.map WData.int)]/\h.get? a = some { cls:=.type "list",data:=.seq vs.toArray }/\IntsAre vs ns/\ns.length <= n:=by
 have hsh:WShape.hasAll [] args [.list .int] = true:=(pre_splitW hpre).1
 have hc:l.pre.holds [] { args:=args } = true:=(pre_splitW hpre).2
 obtain ⟨d,r,rfl,h1,h2⟩:=hasAllW_cons hsh
 obtain rfl:=hasAllW_nil h2
 obtain ⟨xs,rfl,h3⟩:=hasW_list h1
 obtain ⟨ns,rfl⟩:=items_int h3
 have hlen:ns.length <= n:=by
  unfold OpenLaw.pre at hc
  have h4:(WTm.not (.lt (.lit (.int (n:Int))) (.len (.arg 0)))).holds [] { args:=[.list (ns.map .int)] } = true:=by
   have h4:=(holds_andW hc).1
   rw [hn] at h4
   exact h4
  have h5:=condW_of h4 (w_not (w_lt w_lit (w_len_list (w_arg rfl))))
  rw [List.length_map] at h5
  refine Nat.le_of_not_lt fun q=>?_
  have q':(n:Int) < ((ns.length:Nat):Int):=by omega
  first
   | (rw [decide_eq_true q'] at h5; exact absurd h5 (by decide))
   | (simp at h5; omega)
 cases hwl with
 | cons w1 w2 =>
  cases w2
  cases w1 with
  | list ho hall=>exact ⟨_,_,ns,rfl,rfl,ho,Su ns _ hall,hlen⟩
theorem Aaq (l:OpenLaw) (args:List WData):l.row.toRowW.claim.post args (.bool true) args = true :=
 postW_of (r:=l.row.toRowW) (X:=(true == true))
  (show WShape.has [] (.bool true) .bool = true by first | rfl | decide | simp [WShape.has,WShape.arms,WShape.armsAll])
  (show (WTm.eq .res (.lit (.bool true))).value [] { args:=args,res:=some (.bool true),after:=args } = some (.bool (true == true)) from w_eq_bool (w_res rfl) w_lit) rfl
theorem attach_call {l:OpenLaw} {n:Nat} {q:Program} {loose:List Str} {XP:(Str->Option Value)->Heap->Prop} {YP:World->Heap->Prop} {d:DefRec}
  (hn:l.most = some n) (hdf:d.params.defaults = [])
  (call:∀ (w:World) (s₀ s₁:Shared) (mg mb:Str->Option Value) (fa:Addr) (o:Obj) (pm cd doc:Value) (a:Addr) (vs:List Value) (ns:List Int),
   Ground q loose [] XP w s₀ mg mb s₁.heap->YP w s₁.heap ->
   s₁.heap.get? fa = some o->o.data = .func (docDef d.name d.params d.body d.scope pm cd doc)->s₁.heap.CodeRec cd d.name->mg d.name = some (.ref fa) ->
   s₁.heap.get? a = some { cls:=.type "list",data:=.seq vs.toArray }->IntsAre vs ns->ns.length <= n->s₁.gens = #[] ->
   codeAny (model l.prog w) callerA (.call (.ref fa) ⟨[.ref a],[]⟩) (fun r s'=>r = .ok (.ret (.bool true))/\OldK s₁.heap s'.heap/\s'.os = s₁.os/\AllBare s'.gens) s₁) :
  WalkO q loose XP YP l.row.toRowW d [] (fun f vs=>PySem.call f vs):=by
 intro w s₀ s₁ mg mb G Y fa o pm cd doc dV kV ho hd hcd hD hmg hg args vals as hpre hlay hrd hwl hlo
 obtain rfl:dV = .none:=Dflts.none hD hdf
 obtain rfl:kV = .none:=Dflts.noKw hD
 obtain ⟨a,vs,ns,rfl,rfl,hobj,hints,hlen⟩:=Aap hn hpre hwl
 refine enter_call (codeAny_mono (call w s₀ s₁ mg mb fa o pm cd doc a vs ns G Y ho (fd_plain hd) hcd hmg hobj hints hlen hg) fun r s' hq=>?_)
 obtain ⟨rfl,h2,h3,h4⟩:=hq
 exact ⟨.inl ⟨.bool true,.bool true,[],rfl,fun _=>rfl,.bool true,Aaq l _,fun _=>⟨List.Pairwise.nil,fun _ hm=>(nomatch hm)⟩⟩,h2,h3,h4⟩
section
variable {prog:Program} {w:World} {A:Around} {E:Value->Shared->Prop} {s:Shared} {K:Frag}
end
end Att
namespace L2
open PySem PySem.Spec PyProof.Rows
theorem Ty:∀ {vs:List Value} {ns:List Int},IntsAre vs ns->Vals (ns.map V.int) vs
 | _,_,.nil=>.nil
 | _,_,.cons n t h=>.cons ⟨t,rfl⟩ (Ty h)
def Ab5 (H:Hp):Prop:=∀ b,H b = none\/∃ o xs,H b = some (.frz o (.lst xs))
theorem Aco {P:Program} {w:World} {K:PySem.W.Frag} {mg mb:Str->Option Value} {CX:CXT} {k:Nat} {fa a:Addr} {fd:FuncData} {x:Str} {sp:Sp} {s₁:Shared} {vs:List Value} {ns:List Int}
  (KX:K.In s₁.heap) (hns:s₁.heap.Ns mainGlobals mg) (hb:s₁.heap.Ns builtinsNs mb) (hbb:∀ x:Str,x ≠ "__name__"->mb x = bootBuiltins x) (hlim:s₁.heap.NoLimit) (hg:s₁.gens = #[])
  (ha:s₁.heap.get? a = some { cls:=.type "list",data:=.seq vs.toArray }) (hi:IntsAre vs ns) (hl:ns.length <= sizeLine) (hr:Room k callerA)
  (F:∀ base:Heap,K.In base->base.Ns mainGlobals mg->FnOk P w K mg base CX k fa fd [x] sp) (hbind:∀ (s:Shared) (u:Value),BindsTo s fd ⟨[u],[]⟩ [(x,u)])
  (hsp:∀ H:Hp,Ab5 H->SqL K H a (ns.map V.int)->sp [.ref a] H (fun v _=>v = .bl true) fun _ _ _=>False)
  (hCX:∀ H e s',CX [] H s₁ (fun _ _ _=>False) e s'->False) :
  codeAny (model P w) callerA (.call (.ref fa) ⟨[.ref a],[]⟩) (fun r s'=>r = .ok (.ret (.bool true))/\OldK s₁.heap s'.heap/\s'.os = s₁.os/\AllBare s'.gens) s₁:=by
 have rv:=Ty hi
 have lenV:=hi.length
 -- from an abstract heap in which nothing but the script may be tracked
 have core:∀ H:Hp,Ab5 H->SqL K H a (ns.map V.int)->HOk P w H s₁.heap->(∀ b,H b ≠ none->b = a)->(H a ≠ none->K.lookup a = none) ->
   codeAny (model P w) callerA (.call (.ref fa) ⟨[.ref a],[]⟩) (fun r s'=>r = .ok (.ret (.bool true))/\OldK s₁.heap s'.heap/\s'.os = s₁.os/\AllBare s'.gens) s₁:=by
  intro H hO hS hok hA hK
  have base_of:∀ {b:Addr} {o:Obj},s₁.heap.get? b = some o->H b = none->(Nr s₁.heap H).get? b = some o:=fun e n=>AbY e n
  have noA:∀ {b:Addr} {o:Obj} {es:Array DictEntry} {ep:Nat},s₁.heap.get? b = some o->o.data = .dict es ep->H b = none:=fun {b o es ep} e d=>by
   cases q:H b with
   | none=>rfl
   | some u =>
    have e':b = a:=hA b (by rw [q]; simp)
    subst e'
    rw [ha] at e; cases e
    have d':Data.seq vs.toArray _ = Data.dict es ep:=d
    cases d'
  have nsK:∀ {b:Addr} {m:Str->Option Value},s₁.heap.Ns b m->(Nr s₁.heap H).Ns b m:=fun {b m} ⟨o,es,ep,e,d,r⟩=>⟨o,es,ep,base_of e (noA e d),d,r⟩
  have hKb:K.In (Nr s₁.heap H):=fun b o e=>base_of (KX b o e) (by
   cases q:H b with
   | none=>rfl
   | some u =>
    have e':b = a:=hA b (by rw [q]; simp)
    subst e'
    rw [hK (by rw [q]; simp)] at e; cases e)
  have hM:Mod K mg (Nr s₁.heap H):=⟨hKb,nsK hns,⟨mb,nsK hb,hbb⟩,let ⟨mc,h1,h2⟩:=hlim; ⟨mc,nsK h1,h2⟩⟩
  have e0:Env0 P w K mg (Nr s₁.heap H) callerA [] s₁ H:=⟨rfl,hM,fun b o e=>Aew e,Nat.le_of_eq (Abp _ _),trivial,fun b hb=>absurd (show b ∈ ([]:List Addr) from hb) (by simp),hok,.of_eq hg⟩
  refine codeAny_mono ((F _ hKb (nsK hns)).run callerA [] s₁ H ⟨[.ref a],[]⟩ [.ref a] [.ref a] _ _ hr e0 (hbind s₁ (.ref a)) (.cons rfl .nil) (hsp H hO hS)) fun r s' h=>?_
  cases r with
  | error e=>exact (hCX H e s' h).elim
  | ok fl =>
   cases fl with
   | next=>exact False.elim h
   | brk=>exact False.elim h
   | cont=>exact False.elim h
   | ret u =>
    obtain ⟨v,H',os,bare,un,hok',r',q⟩:=h
    have q':v = .bl true:=q
    subst q'
    obtain rfl:u = Value.bool true:=r'
    refine ⟨rfl,OldK.of_keep fun b o e=>?_,os,bare⟩
    cases q:H b with
    | none=>exact un.keep b o e q (by intro z; exact absurd (show b ∈ ([]:List Addr) from z) (by simp)) (by simp)
    | some u =>
     rcases hO b with z | ⟨ob,xs,z⟩
     ·rw [q] at z; cases z
     ·have z2:=un.frzs b ob _ z
      obtain ⟨e1,_⟩:=hok b _ z
      obtain ⟨e2,_⟩:=hok' b _ z2
      rw [e] at e1; cases e1
      exact e2
 cases hk:K.lookup a with
 | some o =>
  -- the script is one of the module's own objects
  have e:=KX a o hk
  rw [ha] at e
  cases e
  refine core (fun _=>none) (fun _=>.inl rfl) (.inr ⟨_,vs.toArray,_,hk,rfl,rfl,rfl,by rw [List.size_toArray,lenV]; exact hl,by simpa using rv⟩) (fun b u z=>by have z':(none:Option HO) = some u:=z; cases z') (fun b z=>absurd rfl z) fun z=>absurd rfl z
 | none =>
  refine core (fun b=>if b = a then some (.frz { cls:=.type "list",data:=.seq vs.toArray } (.lst (ns.map V.int))) else none) (fun b=>?_) (.inl (.inr ⟨{ cls:=.type "list",data:=.seq vs.toArray },if_pos rfl⟩)) (fun b u z=>?_) (fun b z=>?_) fun _=>hk
  ·by_cases hb:b = a
   ·exact .inr ⟨_,_,if_pos hb⟩
   ·exact .inl (if_neg hb)
  ·by_cases hb:b = a
   ·have z':=(if_pos hb).symm.trans z
    cases z'
    subst hb
    exact ⟨ha,by rw [List.length_map]; exact hl,vs,_,rv,ha⟩
   ·have z':=(if_neg hb).symm.trans z
    cases z'
  ·by_cases hb:b = a
   ·exact hb
   ·exact absurd (if_neg hb) z
end L2
namespace L2
open PySem PySem.Spec PyProof.Rows
theorem AiX {l:PySem.W.OpenLaw} {n k:Nat} {q:Program} {loose:List Str} {XP:(Str->Option Value)->Heap->Prop} {YP:World->Heap->Prop} {d:DefRec} {K:Params->PySem.W.Frag} {CX:World->CXT} {sp:World->Sp} {x:Str}
  (hn:l.most = some n) (hn2:n <= sizeLine) (hdf:d.params.defaults = []) (hr:Room k callerA)
  (hY:∀ (w:World) (h:Heap),YP w h->(K w.params).In h)
  (F:∀ (w:World) (mg:Str->Option Value) (fa:Addr) (h:Heap),(K w.params).In h->h.Ns mainGlobals mg->mg d.name = some (.ref fa) ->
   ∃ fd:FuncData,(∀ (s:Shared) (u:Value),BindsTo s fd ⟨[u],[]⟩ [(x,u)]) /\
    ∀ base:Heap,(K w.params).In base->base.Ns mainGlobals mg->FnOk l.prog w (K w.params) mg base (CX w) k fa fd [x] (sp w))
  (hsp:∀ (w:World) (H:Hp) (a:Addr) (ns:List Int),ns.length <= n->Ab5 H->SqL (K w.params) H a (ns.map V.int)->sp w [.ref a] H (fun v _=>v = .bl true) fun _ _ _=>False)
  (hCX:∀ (w:World) (H:Hp) (s:Shared) (e:Value) (s':Shared),CX w [] H s (fun _ _ _=>False) e s'->False) :
  PySem.W.WalkO q loose XP YP l.row.toRowW d [] (fun f vs=>PySem.call f vs):=by
 refine Att.attach_call hn hdf fun w s₀ s₁ mg mb fa o pm cd doc a vs ns G Y ho hd hcd hmg hobj hints hlen hg=>?_
 have KX:=hY w _ Y
 obtain ⟨fd,hb,hF⟩:=F w mg fa _ KX G.T.g hmg
 exact Aco KX G.T.g G.T.b G.T.builtins G.T.nolimit hg hobj hints (Nat.le_trans hlen hn2) hr hF hb (fun H hO hS=>hsp w H a ns hlen hO hS) fun H e s'=>hCX w H s₁ e s'
end L2
namespace L2
open PySem PySem.Spec PyProof.Rows
def Xs (s:Stmt) (j:Nat):Stmt:=match s with
 | .ClassDef _ _ _ body _ _ _ _ _ _ _=>body.getD j (.Pass ⟨0,0,0,0⟩)
 | _=>.Pass ⟨0,0,0,0⟩
def Bo (s:Stmt):Arguments:=match s with
 | .FunctionDef _ a _ _ _ _ _ _ _ _=>a
 | _=>{ posonlyargs:=[],args:=[],vararg:=none,kwonlyargs:=[],kw_defaults:=[],kwarg:=none,defaults:=[] }
def Bl (s:Stmt):List Stmt:=match s with
 | .FunctionDef _ _ b _ _ _ _ _ _ _=>b
 | _=>[]
def Bc (s:Stmt):Scope:=match s with
 | .FunctionDef _ _ _ _ _ _ sc _ _ _=>sc
 | _=>{ kind:=.function,names:=[],isGenerator:=false,isCoroutine:=false }
abbrev CX0:CXT:=fun _ _ _ _ _ _=>False
abbrev E0:XK:=fun _ _ _=>False
theorem Bt {X:Cx}:Lz CX0 X E0:=fun _ _ _ _ _ _ _ h=>h.elim
structure Fun (K:PySem.W.Frag) (x qual:Str) (st:Stmt) (f:Addr) (fd:FuncData):Prop where
 ex:∃ (oc:Value) (od:Option Addr) (kV doc pm:Value) (an:Option Addr) (cdv ct:Value) (osl:Array (Option Value)),
  fd = PySem.W.fnOf x qual (Bo st) (Bl st) (Bc st) .none kV doc pm an cdv ct/\K.lookup f = some ⟨oc,od,.func fd,osl⟩/\PySem.W.codeIn K cdv qual = true
 kp:PySem.W.keepIn K (.ref f) = true
section
variable {P:Program} {w:World} {K:PySem.W.Frag} {mg:Str->Option Value} {base:Heap}
theorem Fun.ok {x qual:Str} {st:Stmt} {f:Addr} {fd:FuncData} {N ps:List Str} {k:Nat} {sp:Sp} (F:Fun K x qual st f fd) (S:By N ps (Bc st)) (len:∀ vs H Q E,sp vs H Q E->vs.length = ps.length)
  (hbody:∀ (cdv:Value) (A:Around) (outer:List Env) (s:Shared) (H:Hp) (vs:List V) (Q:VK) (E:XK),Room k (A.deeper (envOfC qual (Bc st) s.heap.objs.size f cdv))->sp vs H Q E ->
   ∃ t,PSs (Rz CX0 P w K mg base N qual (Bc st) f cdv A outer s H E).nox (Bl st) t/\t { nx:=fun _ H'=>Q .non H',rt:=Q } (Lk N vs) H):FnOk P w K mg base CX0 (k + 1) f fd ps sp:=by
 obtain ⟨oc,od,kV,doc,pm,an,cdv,ct,osl,rfl,lk,hcd⟩:=F.ex
 refine Ahq lk hcd S len fun A outer s H vs Q E hr hsp=>?_
 obtain ⟨t,h,q⟩:=hbody cdv A outer s H vs Q E hr hsp
 exact ⟨t,h.nox,q⟩
theorem Fun.binds {x qual:Str} {st:Stmt} {f:Addr} {fd:FuncData} {ps:List Str} (F:Fun K x qual st f fd)
  (h:∀ (kV doc pm:Value) (an:Option Addr) (cdv ct:Value) (us:List Value),us.length = ps.length->bindArgs (PySem.W.fnOf x qual (Bo st) (Bl st) (Bc st) .none kV doc pm an cdv ct) ⟨us,[]⟩ = pure (ps.zip us)):Binds K fd ps []:=by
 obtain ⟨oc,od,kV,doc,pm,an,cdv,ct,osl,rfl,lk,hcd⟩:=F.ex
 exact .all (h kV doc pm an cdv ct)
theorem Ch {x qual:Str} {st:Stmt} {f:Addr} {oc:Value} {od an:Option Addr} {osl:Array (Option Value)} {kV doc pm cdv ct:Value} (l:K.lookup f = some ⟨oc,od,.func (PySem.W.fnOf x qual (Bo st) (Bl st) (Bc st) .none kV doc pm an cdv ct),osl⟩)
  (c:PySem.W.codeIn K cdv qual = true) (k:PySem.W.keepIn K (.ref f) = true):Fun K x qual st f (PySem.W.fnOf x qual (Bo st) (Bl st) (Bc st) .none kV doc pm an cdv ct):=⟨⟨oc,od,kV,doc,pm,an,cdv,ct,osl,rfl,l,c⟩,k⟩
end
theorem Co {A:Around} {k:Nat} (hr:Room k A):A.units + 1 < cLine:=Nat.lt_of_le_of_lt (Nat.add_le_add_left (by decide:1 <= 64) _) hr.units
theorem Qa {n:Nat} (h:n <= 1000):n < sizeLine:=Nat.lt_of_le_of_lt h (by decide)
section
variable {X:Cx}
theorem pv (i:Nat) {x:Str} {pos:Pos} (hN:X.N[i]? = some x:=by rfl) (hv:Vis X.env.scope x:=by first | exact Or.inl rfl | exact Or.inr (Or.inl rfl) | exact Or.inr (Or.inr rfl)) (hd:(x == ("__debug__" : Str)) = false:=by decide)
  (hcd:(x == ("__classdict__" : Str)) = false:=by decide):PE X (.Name x pos) (Fq i):=Agl hN hv hd hcd
end
theorem Gz {A B:Prop} (h:B):if false = true then A else B:=by
 rw [if_neg Bool.false_ne_true]
 exact h
theorem Ja {A B:Prop} (h:A):if true = true then A else B:=by
 rw [if_pos rfl]
 exact h
theorem Yq {c A B:Prop} [Decidable c] (h1:c->A) (h2:¬ c->B):if c then A else B:=by
 by_cases h:c
 ·rw [if_pos h]
  exact h1 h
 ·rw [if_neg h]
  exact h2 h
def Same (H H':Hp):Prop:=∀ b o,H b = some o->H' b = some o
theorem Same.refl (H:Hp):Same H H:=fun _ _ h=>h
theorem Same.trans {H H1 H2:Hp} (a:Same H H1) (b:Same H1 H2):Same H H2:=fun c o h=>b c o (a c o h)
theorem Same.free {H H':Hp} (e:Same H H') {l:Addr} (h:H' l = Option.none):H l = Option.none:=by
 cases q:H l with
 | none=>rfl
 | some o =>
  rw [e l o q] at h
  cases h
theorem Same.seq {K:PySem.W.Frag} {H H':Hp} {a:Addr} {xs:List V} (e:Same H H') (h:SqL K H a xs):SqL K H' a xs:=by
 rcases h with (h | ⟨o,h⟩) | h
 ·exact .inl (.inl (e _ _ h))
 ·exact .inl (.inr ⟨o,e _ _ h⟩)
 ·exact .inr h
section
variable {κ:Type} [DecidableEq κ]
theorem Xo {kvs:List (κ × V)} {k:κ} {v:V} (h:Cg kvs k = some v):k ∈ kvs.map (·.1):=by
 have q:(kvs.any fun kv=>decide (kv.1 = k)) = true:=by
  rw [Ox,h]
  all_goals rfl
 obtain ⟨p,hp,e⟩:=List.any_eq_true.mp q
 exact List.mem_map.mpr ⟨p,hp,of_decide_eq_true e⟩
end
end L2
set_option Elab.async false
set_option linter.all false
set_option maxRecDepth 100000
set_option maxHeartbeats 4000000
namespace L2
open PySem PySem.Spec PyProof.Rows
section
variable {X:Cx}
theorem Fk:Jk X (.builtin "isinstance") (fun vs H Q=>∃ x n t b,vs = [x,.ty n]/\Fb X.K H x t/\PySem.W.kitOne X.K t (.type n) = some b/\Q (.bl b) H):=by
 intro pins s σ H vs us Q I r h
 obtain ⟨x,n,t,b,rfl,ty,e,q⟩:=h
 obtain ⟨u,w',rfl,rx,ry⟩:=Ah9 r
 cases ry
 exact AbP I rx ty e fun tk=>⟨.bl b,H,I.tok tk,rfl,q⟩
end
theorem Lv {K:PySem.W.Frag} {T S:String} {b:Bool} (h:(if (Value.type T == Value.type S) = true then some true else if PySem.W.kitMeta S = true then (fastBuiltinMro T).map (·.contains (Value.type S)) else none) = some b):PySem.W.kitOne K (.type T) (.type S) = some b:=h
theorem Wv {K:PySem.W.Frag}:PySem.W.kitOne K (.type "int") (.type "int") = some true:=Lv (by decide +kernel)
theorem Vu {K:PySem.W.Frag}:PySem.W.kitOne K (.type "int") (.type "bool") = some false:=Lv (by decide +kernel)
theorem Wt {K:PySem.W.Frag}:PySem.W.kitOne K (.type "str") (.type "str") = some true:=Lv (by decide +kernel)
theorem Up {K:PySem.W.Frag}:PySem.W.kitOne K (.type "list") (.type "list") = some true:=Lv (by decide +kernel)
theorem Wu {K:PySem.W.Frag}:PySem.W.kitOne K (.type "tuple") (.type "tuple") = some true:=Lv (by decide +kernel)
inductive EqD (K:PySem.W.Frag) (H:Hp):Nat->V->V->Bool->Prop where
 | flat {n:Nat} {x y:V} (hx:Gg x = true) (hy:Gg y = true):EqD K H n x y (eqV x y)
 | same {n:Nat} (a:Addr):EqD K H n (.ref a) (.ref a) true
 | lst {n:Nat} {a b:Addr} {xs ys:List V} (e:Nat->Bool) (ne:a ≠ b) (hx:SqL K H a xs) (hy:SqL K H b ys) (hl:xs.length = ys.length)
   (he:∀ (i:Nat) (x y:V),xs[i]? = some x->ys[i]? = some y->EqD K H n x y (e i)):EqD K H (n + 1) (.ref a) (.ref b) ((List.range xs.length).all e)
 | lstN {n:Nat} {a b:Addr} {xs ys:List V} (ne:a ≠ b) (hx:SqL K H a xs) (hy:SqL K H b ys) (hl:¬ xs.length = ys.length):EqD K H (n + 1) (.ref a) (.ref b) false
 | tup {n:Nat} {a b:Addr} {xs ys:List V} (e:Nat->Bool) (ne:a ≠ b) (hx:SqT K H a xs) (hy:SqT K H b ys)
   (he:∀ (i:Nat) (x y:V),xs[i]? = some x->ys[i]? = some y->EqD K H n x y (e i)):EqD K H (n + 1) (.ref a) (.ref b) ((List.range (min xs.length ys.length)).all e && xs.length == ys.length)
section
variable {X:Cx} {pins:List (Addr × Obj)} {σ:St} {H:Hp} {s:Shared}
theorem Lm (A:Around):A.in1.units = A.units + 1:=rfl
theorem Nw {xs ys:List V} {us vs:List Value} {R:Nat->Value->Value->Prop} (r1:Vals xs us) (r2:Vals ys vs)
  (h:∀ (i:Nat) (x y:V) (u v:Value),xs[i]? = some x->ys[i]? = some y->RelV x u->RelV y v->R i u v) :
  ∀ j (h1:j < us.toArray.size) (h2:j < vs.toArray.size),R j us.toArray[j] vs.toArray[j]:=by
 intro j h1 h2
 have h1':j < us.length:=by simpa using h1
 have h2':j < vs.length:=by simpa using h2
 have l1:j < xs.length:=by rw [r1.length]; exact h1'
 have l2:j < ys.length:=by rw [r2.length]; exact h2'
 obtain ⟨u,eu,ru⟩:=r1.get (i:=j) (x:=xs[j]) (by simp [l1])
 obtain ⟨v,ev,rv⟩:=r2.get (i:=j) (x:=ys[j]) (by simp [l2])
 have eu':us[j] = u:=by simpa [h1'] using eu
 have ev':vs[j] = v:=by simpa [h2'] using ev
 have q:=h j xs[j] ys[j] u v (by simp [l1]) (by simp [l2]) ru rv
 simpa [eu',ev'] using q
theorem EqD.at (I:Inv X pins σ H s):∀ {n:Nat} {x y:V} {b:Bool},EqD X.K H n x y b->∀ {A:Around} {u v:Value},A.units + n < cLine->RelV x u->RelV y v->SeqAt.EqAt A s u v b:=by
 intro n x y b h
 induction h with
 | flat hx hy=>intro A u v _ ru rv; exact AaG ru rv hx hy
 | same a=>intro A u v _ ru rv; cases ru; cases rv; exact SeqAt.EqAt.same _
 | @lst n a b xs ys e ne hx hy hl he ih =>
  intro A u v hu ru rv
  cases ru; cases rv
  obtain ⟨us,r1,p1,_⟩:=I.list hx
  obtain ⟨vs,r2,p2,_⟩:=I.list hy
  have es:us.toArray.size = xs.length:=by rw [List.size_toArray]; exact r1.length.symm
  have es2:us.toArray.size = vs.toArray.size:=by rw [es,List.size_toArray,<- r2.length]; exact hl
  refine SeqAt.EqAt.of_refs ne ?_
  rw [<- es]
  exact SeqAt.RcAt.lists p1.isList p2.isList es2 (by omega) (Nw r1 r2 fun i x y u v hx hy ru rv=>ih i x y hx hy (by rw [Lm]; omega) ru rv)
 | @lstN n a b xs ys ne hx hy hl =>
  intro A u v hu ru rv
  cases ru; cases rv
  obtain ⟨us,r1,p1,_⟩:=I.list hx
  obtain ⟨vs,r2,p2,_⟩:=I.list hy
  refine SeqAt.EqAt.of_refs ne (SeqAt.RcAt.lists_lengths p1.isList p2.isList ?_ (by omega))
  rw [List.size_toArray,List.size_toArray,<- r1.length,<- r2.length]
  simpa using hl
 | @tup n a b xs ys e ne hx hy he ih =>
  intro A u v hu ru rv
  cases ru; cases rv
  obtain ⟨us,r1,p1,_⟩:=I.tuple hx
  obtain ⟨vs,r2,p2,_⟩:=I.tuple hy
  have es:us.toArray.size = xs.length:=by rw [List.size_toArray]; exact r1.length.symm
  have es2:vs.toArray.size = ys.length:=by rw [List.size_toArray]; exact r2.length.symm
  refine SeqAt.EqAt.of_refs ne ?_
  rw [<- es,<- es2]
  exact SeqAt.RcAt.tuples p1 p2 (by omega) (Nw r1 r2 fun i x y u v hx hy ru rv=>ih i x y hx hy (by rw [Lm]; omega) ru rv)
def LEq (K:PySem.W.Frag) (H:Hp) (xs ys:List V) (k:Bool):Prop :=
 (¬ xs.length = ys.length/\k = false)\/(xs.length = ys.length/\∃ e:Nat->Bool,(∀ (i:Nat) (x y:V),xs[i]? = some x->ys[i]? = some y->EqD K H 40 x y (e i))/\k = (List.range xs.length).all e)
def Vq (K:PySem.W.Frag) (neg:Bool):R2:=fun x y H Q=>∃ a b xs ys k,x = .ref a/\y = .ref b/\SqL K H a xs/\SqL K H b ys/\LEq K H xs ys k/\Q (.bl (if neg then !k else k)) H
theorem AaM (hu:X.A.units + 64 < cLine):OpR X (compareOp .Eq) (Vq X.K false):=by
 intro pins s σ H x y v u Q I rx ry h
 obtain ⟨a,b,xs,ys,k,rfl,rfl,hx,hy,hk,q⟩:=h
 cases rx; cases ry
 obtain ⟨us,r1,p1,_⟩:=I.list hx
 obtain ⟨vs,r2,p2,_⟩:=I.list hy
 have fin:EP X pins σ Q (.bool k) s:=⟨.bl k,H,I,rfl,q⟩
 rcases hk with ⟨hl,rfl⟩ | ⟨hl,e,he,rfl⟩
 ·refine SeqAt.eq_list_lengthsAt p1.isList p2.isList ?_ (by omega) fin
  rw [List.size_toArray,List.size_toArray,<- r1.length,<- r2.length]
  simpa using hl
 ·have es:us.toArray.size = xs.length:=by rw [List.size_toArray]; exact r1.length.symm
  have es2:us.toArray.size = vs.toArray.size:=by rw [es,List.size_toArray,<- r2.length]; exact hl
  rw [<- es] at fin
  exact SeqAt.eq_listAt p1.isList p2.isList es2 (by omega) (Nw r1 r2 fun i x y u v hx hy ru rv=>(he i x y hx hy).at I (by rw [Lm]; omega) ru rv) fin
theorem Af3 (hu:X.A.units + 64 < cLine):OpR X (compareOp .NotEq) (Vq X.K true):=by
 intro pins s σ H x y v u Q I rx ry h
 obtain ⟨a,b,xs,ys,k,rfl,rfl,hx,hy,hk,q⟩:=h
 cases rx; cases ry
 obtain ⟨us,r1,p1,_⟩:=I.list hx
 obtain ⟨vs,r2,p2,_⟩:=I.list hy
 have fin:EP X pins σ Q (.bool (!k)) s:=⟨.bl (!k),H,I,rfl,q⟩
 rcases hk with ⟨hl,rfl⟩ | ⟨hl,e,he,rfl⟩
 ·refine SeqAt.RcNeAt.lists_lengths p1.isList p2.isList ?_ (by omega) _ _ _ _ fin
  rw [List.size_toArray,List.size_toArray,<- r1.length,<- r2.length]
  simpa using hl
 ·have es:us.toArray.size = xs.length:=by rw [List.size_toArray]; exact r1.length.symm
  have es2:us.toArray.size = vs.toArray.size:=by rw [es,List.size_toArray,<- r2.length]; exact hl
  rw [<- es] at fin
  exact SeqAt.RcNeAt.lists p1.isList p2.isList es2 (by omega) (Nw r1 r2 fun i x y u v hx hy ru rv=>(he i x y hx hy).at I (by rw [Lm]; omega) ru rv) _ _ _ _ fin
end
section
variable {X:Cx} {pins:List (Addr × Obj)} {σ:St} {H:Hp} {s:Shared} {a:Addr}
def Frb:HO->Prop
 | .dK _=>True
 | .dT _=>True
 | _=>False
theorem Frb.notup {u:HO} (h:Frb u) (xs:List V):u ≠ .tup xs:=by intro e; subst e; exact h
theorem Frb.nofrz {u:HO} (h:Frb u) (o:Obj) (v:HO):u ≠ .frz o v:=by intro e; subst e; exact h
theorem Frb.noown {u:HO} (h:Frb u) (x:Addr):u ≠ .own x:=by intro e; subst e; exact h
theorem Frb.notbl {u:HO} (h:Frb u) (ps:Array Value):u ≠ .tbl ps:=by intro e; subst e; exact h
def Ys (X:Cx) (a:Addr):Prop:=(∀ xs,X.H₀ a ≠ some (.tup xs))/\(∀ o v,X.H₀ a ≠ some (.frz o v))/\∀ ps,X.H₀ a ≠ some (.tbl ps)
theorem Inv.free0 (I:Inv X pins σ H s) {u:HO} (hu:Frb u) (e:H a = some u):Ys X a:=by
 refine ⟨fun xs q=>?_,fun o v q=>?_,fun ps q=>?_⟩
 ·have:=I.base.tups a xs q; rw [e] at this; exact hu.notup xs (Option.some.inj this)
 ·have:=I.base.frzs a o v q; rw [e] at this; exact hu.nofrz o v (Option.some.inj this)
 ·obtain ⟨m,this⟩:=I.base.tbls a ps q; rw [e] at this; exact hu.notbl _ (Option.some.inj this)
theorem Inv.swap {u v:HO} (I:Inv X pins σ H s) (hu:∀ x,u ≠ .own x) (hu2:∀ xs,u ≠ .tup xs) (e:H a = some u) (f:Ys X a) (ok:ObjOk X.prog X.w (upd H a v) s.heap a v):Inv X pins σ (upd H a v) s:=by
 have nown:∀ b x,H b = some (.own x)->b ≠ a:=fun b x q z=>by subst z; rw [e] at q; exact hu x (Option.some.inj q)
 have ntup:∀ b xs,H b = some (.tup xs)->b ≠ a:=fun b xs q z=>by subst z; rw [e] at q; exact hu2 xs (Option.some.inj q)
 have nnone:∀ b,H b = none->b ≠ a:=fun b q z=>by subst z; rw [e] at q; cases q
 refine ⟨I.ok,I.os,I.bare,⟨I.base.keep,I.base.slot,fun b o h1 h2 h3=>?_,I.base.there,fun b xs q=>?_,fun b o w q=>?_,fun b ps q=>?_⟩,I.loc,I.cell,?_,fun x c q=>?_,fun p hp=>?_,fun b o q=>?_,I.len⟩
 ·have q:=I.base.free b o h1 h2 h3
  rw [Bi (nnone b q)]; exact q
 ·have h:b ≠ a:=fun z=>by subst z; exact f.1 xs q
  rw [Bi h]; exact I.base.tups b xs q
 ·have h:b ≠ a:=fun z=>by subst z; exact f.2.1 o w q
  rw [Bi h]; exact I.base.frzs b o w q
 ·have h:b ≠ a:=fun z=>by subst z; exact f.2.2 ps q
  rw [Bi h]; exact I.base.tbls b ps q
 ·rw [Bi (nnone _ I.free)]; exact I.free
 ·rw [Bi (nnone _ (I.freeC x c q))]; exact I.freeC x c q
 ·obtain ⟨h1,h2,h3⟩:=I.pin p hp
  exact ⟨h1,by rw [Bi (nnone _ h2)]; exact h2,h3⟩
 ·by_cases hb:b = a
  ·subst hb; rw [Bq] at q; cases q; exact ok
  ·rw [Bi hb] at q
   exact (I.hok b o q).stay (fun _ _ _ z=>z) (fun c z=>by rw [Bi (nown c b z)]; exact z) fun c xs z=>by rw [Bi (ntup c xs z)]; exact z
theorem ObjOk.heap {P:Program} {w:World} {h:Heap} {H':Hp} {u:HO} (x:ObjOk P w H h a u) (hd:∀ b xs,H b = some (.tup xs)->H' b = some (.tup xs)) (ho:∀ b,H b = some (.own a)->H' b = some (.own a)):ObjOk P w H' h a u :=
 x.stay (fun _ _ _ z=>z) ho hd
theorem Inv.freeze {u:HO} (I:Inv X pins σ H s) (hu:Frb u) (e:H a = some u):∃ o,Inv X pins σ (upd H a (.frz o u)) s:=by
 have ok:=I.hok a u e
 obtain ⟨o,ho⟩:∃ o,s.heap.get? a = some o:=by
  cases u with
  | dK kvs=>obtain ⟨_,_,_,_,o,_,_,h,_⟩:=ok; exact ⟨o,h⟩
  | dT kvs=>obtain ⟨_,_,_,_,o,_,_,h,_⟩:=ok; exact ⟨o,h⟩
  | _=>exact hu.elim
 refine ⟨o,I.swap (fun x=>hu.noown x) (fun xs=>hu.notup xs) e (I.free0 hu e) ⟨ho,ok.heap (fun b xs q=>?_) fun b q=>?_⟩⟩
 ·rw [Bi (fun z=>by subst z; rw [e] at q; exact hu.notup xs (Option.some.inj q))]; exact q
 ·rw [Bi (fun z=>by subst z; rw [e] at q; exact hu.noown _ (Option.some.inj q))]; exact q
theorem Inv.thaw {u:HO} {o:Obj} (I:Inv X pins σ H s) (f:Ys X a) (e:H a = some (.frz o u)):Inv X pins σ (upd H a u) s:=by
 obtain ⟨ho,ok⟩:=(show ObjOk X.prog X.w H s.heap a (.frz o u) from I.hok a _ e)
 refine I.swap (by intro x z; cases z) (by intro xs z; cases z) e f (ok.heap (fun b xs q=>?_) fun b q=>?_)
 ·rw [Bi (fun z=>by subst z; rw [e] at q; cases q)]; exact q
 ·rw [Bi (fun z=>by subst z; rw [e] at q; cases q)]; exact q
def Lw (a:Addr) (u:HO) (D:Ends):Ends where
 nx:=fun σ H=>∃ o,H a = some (.frz o u)/\D.nx σ (upd H a u)
 rt:=fun v H=>∃ o,H a = some (.frz o u)/\D.rt v (upd H a u)
 bk:=fun σ H=>∃ o,H a = some (.frz o u)/\D.bk σ (upd H a u)
 ct:=fun σ H=>∃ o,H a = some (.frz o u)/\D.ct σ (upd H a u)
def Zk (t:TS):TS:=fun D σ H=>∃ a u,Frb u/\H a = some u/\∀ o,t (Lw a u D) σ (upd H a (.frz o u))
theorem Vm {st:Stmt} {t:TS} (h:PS X st t):PS X st (Zk t):=by
 intro pins s σ H D I q
 obtain ⟨a,u,hu,e,q⟩:=q
 have f:=I.free0 hu e
 obtain ⟨o,I1⟩:=I.freeze hu e
 refine thn (h pins s σ _ _ I1 (q o)) fun fl s' hs=>?_
 cases fl with
 | next=>obtain ⟨σ',H',I',o',e',q'⟩:=hs; exact ⟨σ',_,I'.thaw f e',q'⟩
 | brk=>obtain ⟨σ',H',I',o',e',q'⟩:=hs; exact ⟨σ',_,I'.thaw f e',q'⟩
 | cont=>obtain ⟨σ',H',I',o',e',q'⟩:=hs; exact ⟨σ',_,I'.thaw f e',q'⟩
 | ret v=>obtain ⟨x,σ',H',I',r,o',e',q'⟩:=hs; exact ⟨x,σ',_,I'.thaw f e',r,q'⟩
end
def Itd (a:Addr) (o:Obj) (kvs:List (Key × V)):It :=
 ⟨fun i H=>H a = some (.frz o (.dK kvs))/\i < kvs.length,fun i H x H'=>H' = H/\∃ kv,kvs[i]? = some kv/\x = kV kv.1,fun i H=>H a = some (.frz o (.dK kvs))/\kvs.length <= i⟩
theorem Xj {P:Program} {w:World} {k:Key} {u:Value} (h:(Cs P w).is k u = true):RelV (kV k) u:=by
 rcases Df h with ⟨i,t,rfl,rfl⟩ | ⟨x,t,rfl,rfl⟩
 ·exact ⟨t,rfl⟩
 ·exact ⟨t,rfl⟩
theorem Og {P:Program} {w:World} {H:Hp} {h:Heap} {a:Addr} {o:Obj} {kvs:List (Key × V)} {es:Array DictEntry} {ep:Nat} (ok:HOk P w H h) (e:H a = some (.frz o (.dK kvs))) (hd:o.data = .dict es ep) :
  (a == sysModules) = false/\∃ vs,KV kvs vs/\h.DictAt (Cs P w) a vs ep:=by
 obtain ⟨ho,_,hm,vs,r,o',es',ep',h1,h2,h3,h4⟩:=(show ObjOk P w H h a (.frz o (.dK kvs)) from ok a _ e)
 rw [ho] at h1
 cases h1
 rw [hd] at h3
 cases h3
 exact ⟨hm,vs,r,o,es,ho,h2,hd,h4⟩
theorem AaO {P:Program} {w:World} {K:PySem.W.Frag} {tg:Expr} (a it:Addr) (o:Obj) (kvs:List (Key × V)) (es:Array DictEntry) (ep:Nat) (hd:o.data = .dict es ep) :
  Vs P w K tg (Itd a o kvs) [it] it (fun i h=>h.IsKeyIter it a i kvs.length ep) where
 mem:=by simp
 obj:=fun i h st b hb=>by
  have e:b = it:=by simpa using hb
  subst e
  obtain ⟨o,e,c,d⟩:=st
  exact ⟨o,e,fun v z=>by rw [d] at z; cases z⟩
 keep:=fun i h h' st k=>by
  obtain ⟨o,e,r⟩:=st
  exact ⟨o,k it (by simp) o e,r⟩
 item:=by
  intro X hP hw hK hc i pins s σ H E I hf st hg
  subst hP hw hK
  obtain ⟨hz,hi⟩:=hg
  obtain ⟨hm,vs,r,da⟩:=Og I.hok hz hd
  have hl:kvs.length = vs.length:=Paired.length r
  obtain ⟨f0,f1,f2,f3,f4,f5⟩:=hf it (by simp)
  have hiv:i < vs.length:=by omega
  have ek:(kvs[i]).1 = (vs[i]).1:=by
   have q:=KV.keys r
   have q1:=congrArg (fun l=>l[i]?) q
   simp only [List.getElem?_map,List.getElem?_eq_getElem hi,List.getElem?_eq_getElem hiv,Option.map_some,Option.some.injEq] at q1
   exact q1
  refine wpAny_pyNext_dict_item (k:=(vs[i]).1) (v:=(vs[i]).2) (kvs:=vs) (by rw [<- hl]; exact st) da (by rw [List.getElem?_eq_getElem hiv]) fun key h' hkey st' sb=>?_
  have I1:Inv X pins σ H { s with heap:=h' }:=I.turned (t':=s.toks) (fun b o hb e=>(sb.2 b hb).trans e) f0 f1 f3 f4 f5
  rw [<- hl] at st'
  obtain ⟨o',e',c',d'⟩:=id st'
  exact ⟨key,rfl,Yl (s:={ s with heap:=h' }) e' c' d' (by decide) ⟨kV (kvs[i]).1,H,I1,by rw [ek]; exact Xj hkey,⟨rfl,kvs[i],List.getElem?_eq_getElem hi,rfl⟩,st',fun b hb=>(hf b hb).1⟩⟩
 done:=by
  intro X hP hw hK hc i pins s σ H E I hf st hg
  subst hP hw hK
  obtain ⟨hz,hi⟩:=hg
  obtain ⟨hm,vs,r,da⟩:=Og I.hok hz hd
  have hl:kvs.length = vs.length:=Paired.length r
  obtain ⟨f0,f1,f2,f3,f4,f5⟩:=hf it (by simp)
  exact wpAny_pyNext_dict_end (kvs:=vs) (I.ok.hd hc) (by rw [<- hl]; exact st) da (List.getElem?_eq_none (by omega)) fun h' eb=>⟨rfl,I.turned (t':=s.toks) (fun b o hb e=>eb b o hb e) f0 f1 f3 f4 f5⟩
 self:=fun _ _ _ _ _ st h=>wpAny_pyIter_keyiter st h
section
variable {X:Cx} {tg:Expr}
def iDk (tl:TE):TI:=fun σ H R=>tl σ H fun x H1=>∃ a o kvs,x = .ref a/\H1 a = some (.frz o (.dK kvs))/\R (Itd a o kvs) H1
theorem Vp {l:Expr} {tl:TE} (hl:PE X l tl):PI X tg l (iDk tl):=by
 intro pins s σ H R I h
 refine thn (hl pins s σ H _ I h) fun v s1 ⟨x,H1,I1,r1,q1⟩=>?_
 obtain ⟨a,o,kvs,e,hz,q⟩:=q1
 subst e
 cases r1
 obtain ⟨ho,_,hm,vs,r,o',es,ep,h1,h2,h3,h4⟩:=(show ObjOk X.prog X.w H1 s1.heap a (.frz o (.dK kvs)) from I1.hok a _ hz)
 rw [ho] at h1
 cases h1
 have hl:kvs.length = vs.length:=Paired.length r
 refine wpAny_pyIter_dict (knd:=Cs X.prog X.w) (kvs:=vs) (ep:=ep) hm ⟨o,es,ho,h2,h3,h4⟩ ?_
 refine ⟨s1.heap.objs.size,[s1.heap.objs.size],_,_,H1,rfl,I1.kept (t':=s1.toks) fun b o e=>Heap.get?_push_of_some _ e,AaO a _ o kvs es ep h3,⟨_,Heap.get?_push_size _ rfl,rfl,by rw [hl]; rfl⟩,fun b hb=>?_,q⟩
 have e:b = s1.heap.objs.size:=by simpa using hb
 subst e
 exact I1.fpOk (Nat.le_refl _) (I1.hok.fresh (Nat.le_refl _))
theorem Ud {a:Addr} {o:Obj} {kvs:List (Key × V)} {g:TG} {tb:TS} {D:Ends} {σ:St} {H:Hp} (Pv:Nat->St->Hp->Prop) (h0:Pv 0 σ H) (hl:∀ i σ H,i <= kvs.length->Pv i σ H->H a = some (.frz o (.dK kvs)))
  (hs:∀ i kv σ H,kvs[i]? = some kv->Pv i σ H->g (kV kv.1) σ H fun σ2 H2=>tb { D with nx:=Pv (i + 1),ct:=Pv (i + 1),bk:=D.nx } σ2 H2) (hd:∀ σ H,Pv kvs.length σ H->D.nx σ H) :
  ∃ W:Nat->Nat->St->Hp->Prop,(∃ m,W 0 m σ H)/\∀ i m σ H,W i m σ H ->
   ((Itd a o kvs).stop i H/\D.nx σ H)\/((Itd a o kvs).go i H/\∃ N:St->Hp->Prop,(∀ σ' H',N σ' H'->∃ m',m' < m/\W (i + 1) m' σ' H')/\∀ x H',(Itd a o kvs).yld i H x H'->g x σ H' fun σ2 H2=>tb { D with nx:=N,ct:=N,bk:=D.nx } σ2 H2):=by
 refine ⟨fun i m σ H=>m = kvs.length - i/\i <= kvs.length/\Pv i σ H,⟨kvs.length,by simp,Nat.zero_le _,h0⟩,?_⟩
 rintro i m σ H ⟨rfl,hi,p⟩
 have q:=hl i σ H hi p
 by_cases hlt:i < kvs.length
 ·refine .inr ⟨⟨q,hlt⟩,Pv (i + 1),fun σ' H' p'=>⟨kvs.length - (i + 1),by omega,rfl,hlt,p'⟩,fun x H' y=>?_⟩
  obtain ⟨e,kv,y1,y2⟩:=y
  subst e y2
  exact hs i kv σ _ y1 p
 ·have e:i = kvs.length:=by omega
  subst e
  exact .inl ⟨⟨q,Nat.le_refl _⟩,hd σ H p⟩
end
def Iti (a:Addr) (o:Obj) (kvs:List (Key × V)):It :=
 ⟨fun i H=>H a = some (.frz o (.dK kvs))/\i < kvs.length,fun i H x H'=>∃ t kv,H t = none/\kvs[i]? = some kv/\x = .ref t/\H' = upd H t (.tup [kV kv.1,kv.2]),fun i H=>H a = some (.frz o (.dK kvs))/\kvs.length <= i⟩
theorem Abo {κ:Type}:∀ {kvs:List (κ × V)} {vs:List (κ × Value)} {i:Nat} {kv:κ × V},KV kvs vs->kvs[i]? = some kv->∃ v,vs[i]? = some (kv.1,v)/\RelV kv.2 v
 | _,_,_,_,.nil,e=>by simp at e
 | _,(k',v') :: _,0,_,.cons r _,e=>by
  simp at e; subst e
  obtain ⟨h1,h2⟩:=r
  exact ⟨v',by simp [h1],h2⟩
 | _,_,i + 1,kv,.cons _ t,e=>by
  obtain ⟨v,h1,h2⟩:=Abo (i:=i) (kv:=kv) t (by simpa using e)
  exact ⟨v,by simpa using h1,h2⟩
theorem Yu {P:Program} {w:World} {K:PySem.W.Frag} {elts:List Expr} {x1:Nat} {tp:Pos} (a it:Addr) (o:Obj) (kvs:List (Key × V)) (es:Array DictEntry) (ep:Nat) (hd:o.data = .dict es ep) :
  Vs P w K (.Tuple elts x1 tp) (Iti a o kvs) [it] it (fun i h=>∃ ok ov,IsItemIter h it a i kvs.length ep ok ov) where
 mem:=by simp
 obj:=fun i h st b hb=>by
  have e:b = it:=by simpa using hb
  subst e
  obtain ⟨ok,ov,e⟩:=st
  exact ⟨_,e,fun v z=>nomatch z⟩
 keep:=fun i h h' st k=>by
  obtain ⟨ok,ov,e⟩:=st
  exact ⟨ok,ov,k it (by simp) _ e⟩
 item:=by
  intro X hP hw hK hc i pins s σ H E I hf st hg
  subst hP hw hK
  obtain ⟨hz,hi⟩:=hg
  obtain ⟨ok,ov,st⟩:=st
  obtain ⟨hm,vs,r,da⟩:=Og I.hok hz hd
  have hl:kvs.length = vs.length:=Paired.length r
  obtain ⟨f0,f1,f2,f3,f4,f5⟩:=hf it (by simp)
  obtain ⟨v,hv,rv⟩:=Abo (i:=i) (kv:=kvs[i]) r (List.getElem?_eq_getElem hi)
  have hit:it < s.heap.objs.size:=Heap.lt_size st
  have hne:s.heap.objs.size ≠ it:=Nat.ne_of_gt hit
  have hfr:H s.heap.objs.size = none:=I.hok.fresh (Nat.le_refl _)
  rw [hl] at st
  refine wpAny_pyNext_items_item st da hv fun key h' hkey ho hT hsz hk=>⟨_,rfl,?_⟩
  refine wpAny_letOwnedTupleGo_items (s:={ s with heap:=h' }) ho fun h2 he hs=>?_
  have hs2:∀ b,b ≠ it->h2.get? b = h'.get? b:=hs.2
  have kp:∀ b o,b ≠ it->s.heap.get? b = some o->h2.get? b = some o:=fun b o hb e=>(hs2 b hb).trans (hk b o hb e)
  have hT2:h2.get? s.heap.objs.size = some { cls:=.type "tuple",data:=.seq #[key,v] }:=(hs2 _ hne).trans hT
  have nt:∀ b u,H b = some u->b ≠ s.heap.objs.size:=fun b u e=>Br e hfr
  rw [<- hl] at he
  refine ⟨.ref s.heap.objs.size,upd H s.heap.objs.size (.tup [kV (kvs[i]).1,(kvs[i]).2]),?_,rfl,⟨_,_,hfr,List.getElem?_eq_getElem hi,rfl,rfl⟩,⟨_,_,he⟩,fun b hb=>?_⟩
  ·refine Inv.step (s:=s) (h':=h2) I (g':=s.gens) (d':=s.drawn) (t':=s.toks) (ch:=[it]) (fun b hb=>?_) (fun b o _ _ hc e _=>kp b o (fun z=>hc (by simp [z])) e) (fun b o _ _ hc e _=>⟨o.slots,kp b o (fun z=>hc (by simp [z])) e⟩)
    (fun b o hc e n=>by rw [Bi (Nat.ne_of_lt (Heap.lt_size e))]; exact n) (fun b o hc e=>⟨o,kp b o (fun z=>hc (by simp [z])) e⟩) (fun b xs e=>by rw [Bi (nt b _ e)]; exact e) (fun b o u e=>by rw [Bi (nt b _ e)]; exact e)
    (fun b ps e=>⟨#[],by rw [Bi (nt b _ e),e]; simp⟩) (fun m hm=>?_) (fun b u e=>?_) I.bare
   ·have e:b = it:=by simpa using hb
    subst e
    exact ⟨f3,f1,f4,f5⟩
   ·obtain ⟨o,es,ep,ho,r⟩:=hm
    exact ⟨o,es,ep,kp _ o (Ne.symm f1) ho,r⟩
   ·by_cases hb:b = s.heap.objs.size
    ·subst hb
     rw [Bq] at e
     cases e
     exact ⟨by show 2 <= sizeLine; decide,[key,v],.cons (Xj hkey) (.cons rv .nil),_,hT2,rfl,_,rfl⟩
    ·rw [Bi hb] at e
     have nit:∀ c w,H c = some w->c ≠ it:=fun c w e z=>by rw [z,f0] at e; cases e
     refine (I.hok b u e).stay (fun c v hc q=>kp c v ?_ q) (fun c q=>by rw [Bi (nt c _ q)]; exact q) fun c xs q=>by rw [Bi (nt c _ q)]; exact q
     rcases hc with z | z
     ·rw [z]; exact nit b u e
     ·exact nit c _ z
  ·have e:b = it:=by simpa using hb
   rw [e,Bi (Ne.symm hne)]
   exact f0
 done:=by
  intro X hP hw hK hc i pins s σ H E I hf st hg
  subst hP hw hK
  obtain ⟨hz,hi⟩:=hg
  obtain ⟨ok,ov,st⟩:=st
  obtain ⟨hm,vs,r,da⟩:=Og I.hok hz hd
  have hl:kvs.length = vs.length:=Paired.length r
  obtain ⟨f0,f1,f2,f3,f4,f5⟩:=hf it (by simp)
  rw [hl] at st
  exact wpAny_pyNext_items_end (I.ok.hd hc) st da (List.getElem?_eq_none (by omega)) fun h' eb=>⟨rfl,I.turned (t':=s.toks) (fun b o hb e=>eb b o hb e) f0 f1 f3 f4 f5⟩
 self:=fun A i s Q E st h=>by
  obtain ⟨ok,ov,e⟩:=st
  exact PySem.W.kcp_self e h
section
variable {X:Cx} {elts:List Expr} {x1:Nat} {tp apos cpos:Pos}
def iDi (tl:TE):TI:=fun σ H R=>tl σ H fun x H1=>∃ a o kvs,x = .ref a/\H1 a = some (.frz o (.dK kvs))/\R (Iti a o kvs) H1
theorem Aav {l:Expr} {tl:TE} (hl:PE X l tl) (hbase:attributeBase l "items" X.env (eval l X.env) = eval l X.env:=by rfl) (hline:(apos.endLine == cpos.line) = true:=by rfl) :
  PI X (.Tuple elts x1 tp) (.Call (.Attribute l "items" apos) [] [] cpos) (iDi tl):=by
 intro pins s σ H R I h
 refine wpAny_Call_method0_late hbase hline (thn (hl pins s σ H _ I h) fun v s1 ⟨x,H1,I1,r1,q1⟩=>?_)
 obtain ⟨a,o,kvs,e,hz,q⟩:=q1
 subst e
 cases r1
 obtain ⟨ho,_,hm,vs,r,o',es,ep,h1,h2,h3,h4⟩:=(show ObjOk X.prog X.w H1 s1.heap a (.frz o (.dK kvs)) from I1.hok a _ hz)
 rw [ho] at h1
 cases h1
 have hlen:kvs.length = vs.length:=Paired.length r
 have da:s1.heap.DictAt (Cs X.prog X.w) a vs ep:=⟨o,es,ho,h2,h3,h4⟩
 refine ⟨"dict","dict.items",PySem.F.plainAttrs_dict,PySem.F.slot_dict_items,PySem.F.type_dict_items,⟨o,ho,h2.1⟩,fun b eb=>?_,Calls.callWith_builtin rfl (PySem.evalArgs_none ?_)⟩
 ·cases eb
  exact ⟨o,ho,h2.2.1⟩
 refine call_meetsIn PySem.F.slot_dict_items da.dictOf.typeIs PySem.F.entry_dict_items (PySem.F.args_dict_items_1 _) (meets_dict_items (Cs X.prog X.w) a hm) ⟨⟨vs,da.dictOf⟩,?_⟩
 refine wpAny_pyIter_items (s:={ s1 with heap:=s1.heap.push { cls:=.type "dict_items",data:=.fields #[.ref a] } }) (knd:=Cs X.prog X.w) (kvs:=vs) (ep:=ep) ⟨_,Heap.get?_push_size _ rfl,rfl,rfl⟩ (da.push _) ?_
 have I2:Inv X pins σ H1 { s1 with heap:=s1.heap.push { cls:=.type "dict_items",data:=.fields #[.ref a] } }:=I1.kept (t':=s1.toks) fun b o e=>Heap.get?_push_of_some _ e
 refine ⟨_,[_],_,_,H1,rfl,I2.kept (t':=s1.toks) fun b o e=>Heap.get?_push_of_some _ e,Yu a _ o kvs es ep h3,⟨.none,.none,by rw [hlen]; exact Heap.get?_push_size _ rfl⟩,fun b hb=>?_,q⟩
 have e:=List.mem_singleton.mp hb
 subst e
 exact I2.fpOk (Nat.le_refl _) (I2.hok.fresh (Nat.le_refl _))
theorem Zq {a:Addr} {o:Obj} {kvs:List (Key × V)} {g:TG} {tb:TS} {D:Ends} {σ:St} {H:Hp} (Pv:Nat->St->Hp->Prop) (h0:Pv 0 σ H) (hl:∀ i σ H,i <= kvs.length->Pv i σ H->H a = some (.frz o (.dK kvs)))
  (hs:∀ i kv t σ H,kvs[i]? = some kv->H t = none->Pv i σ H->g (.ref t) σ (upd H t (.tup [kV kv.1,kv.2])) fun σ2 H2=>tb { D with nx:=Pv (i + 1),ct:=Pv (i + 1),bk:=D.nx } σ2 H2) (hd:∀ σ H,Pv kvs.length σ H->D.nx σ H) :
  ∃ W:Nat->Nat->St->Hp->Prop,(∃ m,W 0 m σ H)/\∀ i m σ H,W i m σ H ->
   ((Iti a o kvs).stop i H/\D.nx σ H)\/((Iti a o kvs).go i H/\∃ N:St->Hp->Prop,(∀ σ' H',N σ' H'->∃ m',m' < m/\W (i + 1) m' σ' H')/\∀ x H',(Iti a o kvs).yld i H x H'->g x σ H' fun σ2 H2=>tb { D with nx:=N,ct:=N,bk:=D.nx } σ2 H2):=by
 refine ⟨fun i m σ H=>m = kvs.length - i/\i <= kvs.length/\Pv i σ H,⟨kvs.length,by simp,Nat.zero_le _,h0⟩,?_⟩
 rintro i m σ H ⟨rfl,hi,p⟩
 have q:=hl i σ H hi p
 by_cases hlt:i < kvs.length
 ·refine .inr ⟨⟨q,hlt⟩,Pv (i + 1),fun σ' H' p'=>⟨kvs.length - (i + 1),by omega,rfl,hlt,p'⟩,fun x H' y=>?_⟩
  obtain ⟨t,kv,ht,y1,y2,y3⟩:=y
  subst y2 y3
  exact hs i kv t σ _ y1 ht p
 ·have e:i = kvs.length:=by omega
  subst e
  exact .inl ⟨⟨q,Nat.le_refl _⟩,hd σ H p⟩
end
end L2
set_option Elab.async false
set_option linter.all false
set_option maxRecDepth 100000
set_option maxHeartbeats 4000000
namespace L2
open PySem PySem.Spec PyProof.Rows
section
variable {σ:St} {H:Hp} {Q:VK} {B:Bool->Hp->Prop} {v x y:V} {ta tb tc:TE} {tA tB':TT} {D:Ends} {t u:TS} {K:PySem.W.Frag}
theorem AhR {i:Nat} (h:σ[i]? = some (some v)) (q:Q v H):Fq i σ H Q:=⟨v,h,q⟩
theorem i_c (q:Q v H):tC v σ H Q:=q
theorem Air {r:R2} (q:ta σ H fun x H1=>tb σ H1 fun y H2=>r x y H2 Q):tOp r ta tb σ H Q:=q
theorem Ait {r:V->Hp->VK->Prop} (q:ta σ H fun x H1=>r x H1 Q):tUn r ta σ H Q:=q
theorem Aiu {g:Int->V} {i:Int} (q:Q (g i) H):rU g (.int i) H Q:=⟨i,rfl,q⟩
theorem Ahx {g:Int->Int->V} {i j:Int} (q:Q (g i j) H):rI0 g (.int i) (.int j) H Q:=⟨i,j,rfl,rfl,q⟩
theorem Ac7 {i j:Int}:decide (V.int i = V.int j) = decide (i = j):=by
 by_cases h:i = j
 ·subst h; simp
 ·rw [decide_eq_false h,decide_eq_false fun e=>h (V.int.inj e)]
theorem Aec {i j:Str}:decide (V.str i = V.str j) = decide (i = j):=by
 by_cases h:i = j
 ·subst h; simp
 ·rw [decide_eq_false h,decide_eq_false fun e=>h (V.str.inj e)]
theorem AdO {i j:Int} (q:Q (.bl (decide (i = j))) H):rEq (.int i) (.int j) H Q:=⟨rfl,by rw [Ac7]; exact q⟩
theorem Adt {i j:Str} (q:Q (.bl (decide (i = j))) H):rEq (.str i) (.str j) H Q:=⟨rfl,by rw [Aec]; exact q⟩
theorem AdA {i j:Int} (q:Q (.bl (!decide (i = j))) H):rNe (.int i) (.int j) H Q:=⟨rfl,by rw [Ac7]; exact q⟩
theorem Ac8 {i j:Str} (q:Q (.bl (!decide (i = j))) H):rNe (.str i) (.str j) H Q:=⟨rfl,by rw [Aec]; exact q⟩
theorem AiH {t:TE} (q:t σ H fun x H1=>∃ c,x = .bl c/\B c H1):tB t σ H B:=q
theorem Aha {t:TE} (q:t σ H fun x H1=>∃ c,x = .bl c/\B c H1):Zo t σ H B:=q
theorem AhV {b:Bool} {P:Bool->Prop} (q:P b):∃ c,V.bl b = V.bl c/\P c:=⟨b,rfl,q⟩
theorem AiO (q:tA σ H fun c H1=>if c = true then B true H1 else tB' σ H1 B):tOr tA tB' σ H B:=q
theorem Aie (q:tA σ H fun c H1=>B (!c) H1):Acz tA σ H B:=q
theorem AfM (q:ta σ H fun x H1=>∃ c,x = .bl c/\if c = true then tb σ H1 Q else Q (.bl false) H1):Zy ta tb σ H Q:=q
theorem Afj (q:ta σ H fun x H1=>∃ c,x = .bl c/\Q (.bl (!c)) H1):Zb ta σ H Q:=q
theorem Zu (q:t { D with nx:=u D } σ H):AbZ t u D σ H:=q
theorem AiV (q:D.nx σ H):Aah D σ H:=q
theorem AfZ (q:ta σ H fun _ H1=>D.nx σ H1):Si ta D σ H:=q
theorem Ahn (q:ta σ H D.rt):Vf ta D σ H:=q
theorem Ais (q:tA σ H fun b H1=>if b = true then t D σ H1 else u D σ H1):Act tA t u D σ H:=q
theorem Aif {g:TG} (q:ta σ H fun x H1=>g x σ H1 D.nx):Tl ta g D σ H:=q
theorem Aej {i:Nat} {R:St->Hp->Prop} (q:R (σ.set i (some v)) H):Jd i v σ H R:=q
theorem Agd {n:Nat} {a:Addr} {xs:List V} {g:TGs} {R:St->Hp->Prop} (h:SqT K H a xs) (hl:xs.length = n) (q:g xs σ H R):Wm K n g (.ref a) σ H R:=⟨a,xs,rfl,h,hl,q⟩
theorem Ae0 {g:TG} {gs:TGs} {vs:List V} {R:St->Hp->Prop} (q:g v σ H fun σ' H'=>gs vs σ' H' R):Zc g gs (v :: vs) σ H R:=⟨v,vs,rfl,q⟩
theorem Agb {R:St->Hp->Prop} (q:R σ H):Ach [] σ H R:=⟨rfl,q⟩
theorem AfQ {sp:Sp} {dvs:List V} {E:XK} {t:TA} (q:t σ H fun vs H1=>sp (vs ++ dvs) H1 Q E):Nq sp dvs E t σ H Q:=q
theorem AgP {C:Addr} {m:Str} {sp:Sp} {dvs:List V} {E:XK} {t:TA} (q:ta σ H fun x H1=>∃ a dx fs,x = .ref a/\H1 a = some (.ins C dx fs)/\fs.lookup m = none/\t σ H1 fun vs H2=>sp (x :: (vs ++ dvs)) H2 Q E):Uy C m sp dvs E ta t σ H Q:=q
theorem AhP {R:List V->Hp->Prop} (q:R [] H):Sa σ H R:=q
theorem AgS {tr:TA} {R:List V->Hp->Prop} (q:ta σ H fun x H1=>tr σ H1 fun xs H2=>R (x :: xs) H2):Fy ta tr σ H R:=q
theorem AhD {t:TA} (q:t σ H fun xs H1=>xs.length <= sizeLine/\∀ p,H1 p = none->Q (.ref p) (upd H1 p (.tup xs))):Af5 t σ H Q:=q
theorem AhI {f:Str} (q:ta σ H fun x H1=>∃ a C dx fs v,x = .ref a/\H1 a = some (.ins C dx fs)/\Cls K C/\NoAttr K C f/\fs.lookup f = some v/\Q v H1):AfS K ta f σ H Q:=q
theorem AiM {r:List V->Hp->VK->Prop} {t:TA} (q:t σ H fun vs H1=>r vs H1 Q):tCB r t σ H Q:=q
theorem AhM (q:ta σ H fun y H1=>tb σ H1 fun x H2=>∃ a o,x = .ref a/\DGet H2 a y o/\Q (.bl o.isSome) H2):Agh ta tb σ H Q:=q
theorem AcM (q:ta σ H fun y H1=>tb σ H1 fun x H2=>∃ a o,x = .ref a/\DGet H2 a y o/\Q (.bl (!o.isSome)) H2):Xr ta tb σ H Q:=q
theorem Af0 (q:ta σ H fun x H1=>tb σ H1 fun y H2=>∃ a v,x = .ref a/\DGet H2 a y (some v)/\Q v H2):Yx ta tb σ H Q:=q
theorem AeX (q:ta σ H fun x H1=>∃ a,x = .ref a/\IsD H1 a/\tb σ H1 fun y H2=>tc σ H2 fun z H3=>∃ o,DGet H3 a y o/\Q (o.getD z) H3):We ta tb tc σ H Q:=q
theorem Afz (q:tc σ H fun v H1=>ta σ H1 fun x H2=>tb σ H2 fun y H3=>∃ a H4,x = .ref a/\DPut H3 a y v H4/\D.nx σ H4):Yr ta tb tc D σ H:=q
theorem Aga {f:Str} (q:tb σ H fun y H1=>ta σ H1 fun x H2=>∃ a C dx fs,x = .ref a/\H2 a = some (.ins C dx fs)/\Cls K C/\NoAttr K C f/\fs.length < 1000/\D.nx σ (upd H2 a (.ins C dx (Bs f y fs)))):AgI K ta tb f D σ H:=q
theorem Ain {T:String} {r:V->List V->Hp->VK->Prop} {t:TA} (q:ta σ H fun x H1=>tyV K T x H1/\t σ H1 fun xs H2=>r x xs H2 Q):tBM K T r ta t σ H Q:=q
theorem AfP (q:∀ p,H p = none->Q (.ref p) (upd H p (.dK []))):Wl σ H Q:=q
theorem AgV (q:∀ p,H p = none->Q (.ref p) (upd H p (.dT []))):Aa1 σ H Q:=q
theorem Gy {i:Nat} {a:Addr} {xs:List V} {g:TG} (hv:σ[i]? = some (some (.ref a))) (hS:SqL K H a xs) (Pv:Nat->St->Hp->Prop) (h0:Pv 0 σ H) (hl:∀ i σ H,i <= xs.length->Pv i σ H->SqL K H a xs)
  (hs:∀ i x σ H,xs[i]? = some x->Pv i σ H->g x σ H fun σ2 H2=>t { D with nx:=Pv (i + 1),ct:=Pv (i + 1),bk:=D.nx } σ2 H2) (hd:∀ σ H,Pv xs.length σ H->D.nx σ H):Nv (Ri K (Fq i)) g t D σ H :=
 ⟨_,hv,a,rfl,⟨_,hS⟩,Sh Pv h0 hl hs hd⟩
theorem AiG {R:It->Hp->Prop} (q:ta σ H fun x H1=>∃ a,x = .ref a/\(∃ xs,SqL K H1 a xs)/\R (Itl K a) H1):Ri K ta σ H R:=q
theorem AgZ {i:Nat} {a:Addr} {kvs:List (Key × V)} {g:TG} (hv:σ[i]? = some (some (.ref a))) (hS:H a = some (.dK kvs)) (Pv:Nat->St->Hp->Prop) (h0:Pv 0 σ H)
  (hl:∀ i σ H,i <= kvs.length->Pv i σ H->H a = some (.dK kvs))
  (hs:∀ o i kv σ H,kvs[i]? = some kv->Pv i σ H->g (kV kv.1) σ (upd H a (.frz o (.dK kvs))) fun σ2 H2=>t (Ends.mk (fun σ H=>H a = some (.frz o (.dK kvs))/\Pv (i + 1) σ (upd H a (.dK kvs))) (Lw a (.dK kvs) D).rt (Lw a (.dK kvs) D).nx (fun σ H=>H a = some (.frz o (.dK kvs))/\Pv (i + 1) σ (upd H a (.dK kvs)))) σ2 H2)
  (hd:∀ σ H,Pv kvs.length σ H->D.nx σ H):Zk (Nv (iDk (Fq i)) g t) D σ H:=by
 refine ⟨a,.dK kvs,trivial,hS,fun o=>⟨_,hv,a,o,kvs,rfl,Bq,Ud (fun i σ H=>H a = some (.frz o (.dK kvs))/\Pv i σ (upd H a (.dK kvs))) ⟨Bq,?_⟩ (fun i σ H _ p=>p.1) (fun i kv σ H e p=>?_) fun σ H p=>⟨o,p.1,hd σ _ p.2⟩⟩⟩
 ·have e:upd (upd H a (.frz o (.dK kvs))) a (.dK kvs) = H:=by
   rw [Ff]; funext b; unfold upd; split
   ·rename_i h; rw [h,hS]
   ·rfl
  rw [e]; exact h0
 ·have e2:upd (upd H a (.dK kvs)) a (.frz o (.dK kvs)) = H:=by
   rw [Ff]; funext b; unfold upd; split
   ·rename_i h; rw [h,p.1]
   ·rfl
  have q:=hs o i kv σ _ e p.2
  rw [e2] at q
  exact q
theorem AgQ {i:Nat} {a:Addr} {kvs:List (Key × V)} {g:TG} (hv:σ[i]? = some (some (.ref a))) (hS:H a = some (.dK kvs)) (Pv:Nat->St->Hp->Prop) (h0:Pv 0 σ H)
  (hs:∀ o i kv p σ H,kvs[i]? = some kv->H p = none->p ≠ a->Pv i σ H->g (.ref p) σ (upd (upd H a (.frz o (.dK kvs))) p (.tup [kV kv.1,kv.2])) fun σ2 H2=>t (Ends.mk (fun σ H=>H a = some (.frz o (.dK kvs))/\Pv (i + 1) σ (upd H a (.dK kvs))) (Lw a (.dK kvs) D).rt (Lw a (.dK kvs) D).nx (fun σ H=>H a = some (.frz o (.dK kvs))/\Pv (i + 1) σ (upd H a (.dK kvs)))) σ2 H2)
  (hd:∀ σ H,Pv kvs.length σ H->D.nx σ H):Zk (Nv (iDi (Fq i)) g t) D σ H:=by
 refine ⟨a,.dK kvs,trivial,hS,fun o=>⟨_,hv,a,o,kvs,rfl,Bq,Zq (fun i σ H=>H a = some (.frz o (.dK kvs))/\Pv i σ (upd H a (.dK kvs))) ⟨Bq,?_⟩ (fun i σ H _ p=>p.1) (fun i kv p σ H e hp w=>?_) fun σ H p=>⟨o,p.1,hd σ _ p.2⟩⟩⟩
 ·have e:upd (upd H a (.frz o (.dK kvs))) a (.dK kvs) = H:=by
   rw [Ff]; funext b; unfold upd; split
   ·rename_i h; rw [h,hS]
   ·rfl
  rw [e]; exact h0
 ·have e2:upd (upd H a (.dK kvs)) a (.frz o (.dK kvs)) = H:=by
   rw [Ff]; funext b; unfold upd; split
   ·rename_i h; rw [h,w.1]
   ·rfl
  have ne:p ≠ a:=fun z=>by rw [z,w.1] at hp; cases hp
  have q:=hs o i kv p σ (upd H a (.dK kvs)) e (by rw [Bi ne]; exact hp) ne w.2
  rw [e2] at q
  exact q
theorem Afc {ta:TA} {g:TG} {hi:Int} {n:Nat} (hargs:∀ R:List V->Hp->Prop,R [.int hi] H->ta σ H R) (hb:-(2 ^ 62) <= hi/\hi < 2 ^ 62) (hn:hi.toNat = n) (Pv:Nat->St->Hp->Prop) (h0:Pv 0 σ H)
  (hs:∀ i σ H,i < n->Pv i σ H->g (.int (0 + i)) σ H fun σ2 H2=>t { D with nx:=Pv (i + 1),ct:=Pv (i + 1),bk:=D.nx } σ2 H2) (hd:∀ σ H,Pv n σ H->D.nx σ H):Nv (Ze ta) g t D σ H :=
 hargs _ ⟨hi,rfl,hb.1,hb.2,by rw [hn]; exact Tr Pv h0 hs hd⟩
end
end L2
set_option Elab.async false
set_option linter.all false
set_option maxRecDepth 100000
set_option maxHeartbeats 4000000
namespace L2
open PySem PySem.Spec PyProof.Rows
def De (fn:List Str) (env:Env):List (Str × Addr):=fn.map fun x=>(x,(env.cells.lookup x).getD 0)
theorem Ro {env:Env}:∀ {fn:List Str} {x:Str} {c:Addr},(De fn env).lookup x = some c->x ∈ fn/\c = (env.cells.lookup x).getD 0
 | [],_,_,h=>by cases h
 | y :: r,x,c,h=>by
  unfold De at h
  rw [List.map_cons,List.lookup_cons] at h
  cases e:x == y with
  | true =>
   rw [e] at h
   have:x = y:=eq_of_beq e
   subst this
   cases h
   exact ⟨List.mem_cons_self,rfl⟩
  | false =>
   rw [e] at h
   obtain ⟨h1,h2⟩:=Ro (fn:=r) (x:=x) (c:=c) h
   exact ⟨List.mem_cons_of_mem _ h1,h2⟩
theorem Rq {env:Env}:∀ {fn:List Str} {x:Str},x ∈ fn->(De fn env).lookup x = some ((env.cells.lookup x).getD 0)
 | [],_,h=>by cases h
 | y :: r,x,h=>by
  unfold De
  rw [List.map_cons,List.lookup_cons]
  cases e:x == y with
  | true =>
   have:x = y:=eq_of_beq e
   subst this
   rfl
  | false =>
   rcases List.mem_cons.mp h with z | z
   ·subst z; rw [beq_self_eq_true] at e; cases e
   ·exact Rq z
def Dm (X:Cx) (scope:Scope) (N' fn:List Str) (C:Addr) (fp:List Addr) (s:Shared) (H:Hp):Cx :=
 { X with N:=N',s₀:=s,H₀:=H,env:=compEnvC scope (De fn X.env) C X.env,outer:=X.stack,stack:=X.stack,ex:=fp,fn:=fun _=>false,pn:=[],xe:=fun _ _=>False }
def compσ (k:Nat) (fr:List Nat) (σ:St):St:=List.replicate k none ++ fr.map fun i=>(σ[i]?).join
def Lj (wi:TI) (g:TG) (tc:TT) (te:TE) (k:Nat) (fr:List Nat):TE:=fun σ H Q=>wi σ H fun J H1=>∀ D,H1 D = none ->
 ∃ W:Nat->Nat->Hp->Prop,(∃ m,W 0 m (upd H1 D (.lst [])))/\∀ i m H,W i m H->(J.stop i H/\Q (.ref D) H)\/(J.go i H/\∀ x H',J.yld i H x H'->g x (compσ k fr σ) H' fun σ2 H2 =>
  σ2.drop k = (compσ k fr σ).drop k/\tc σ2 H2 fun b H3=>if b = true then te σ2 H3 (fun y H4=>∃ ys,H4 D = some (.lst ys)/\ys.length < sizeLine/\∃ m',m' < m/\W (i + 1) m' (upd H4 D (.lst (ys ++ [y])))) else ∃ m',m' < m/\W (i + 1) m' H3)
def Qm (X:Cx) (ifs:List Expr) (t:TT):Prop :=
 ∀ (pins:List (Addr × Obj)) (s:Shared) (σ:St) (H:Hp) (Q:Bool->Hp->Prop),Inv X pins σ H s->t σ H Q ->
  wpAny (model X.prog X.w) X.A (forIn ifs true fun c r=>if r = true then do let ok <- isTrue c X.env (eval c X.env); pure (ForInStep.yield ok) else pure (ForInStep.yield r)) (TP X pins σ Q) X.xe s
def Adb:TT:=fun _ H Q=>Q true H
theorem Tf {X:Cx}:Qm X [] Adb:=fun _ _ _ H _ I h=>wpAny_tests_nil ⟨H,I,h⟩
theorem Wx {X:Cx} {c:Expr} {t:TT} (h:PT X c t):Qm X [c] t:=fun pins s σ H Q I q=>wpAny_tests_one (h pins s σ H Q I q)
theorem Abf {prog:Program} {w:World} {A:Around} {R:Result->Shared->Prop} {s:Shared} {elt target iter:Expr} {ifs:List Expr} {scope:Scope} {pos:Pos} {it acc:Value} {env:Env} (I:Nat->Shared->Prop)
  (turn:∀ n s,I n s->wpAny (model prog w) A (pyNext it) (fun r s₁=>match r with
   | none=>R (.ok .next) s₁
   | some v=>wpAny (model prog w) A (letOwnedTupleGo target it v) (fun _ s₁'=>wpAny (model prog w) A (assign target env v) (fun _ s₂ =>
     wpAny (model prog w) A (forIn ifs true fun c r=>if r = true then do let ok <- isTrue c env (eval c env); pure (ForInStep.yield ok) else pure (ForInStep.yield r)) (fun ok s₃ =>
      if ok = true then wpAny (model prog w) A (eval elt env) (fun x s₄ =>
       wpAny (model prog w) A (call (.builtin "list.append") [acc,x]) (fun _ s₅=>∃ m,m < n/\I m s₅) (fun _ _=>False) s₄) (fun _ _=>False) s₃
      else ∃ m,m < n/\I m s₃) (fun _ _=>False) s₂) (fun _ _=>False) s₁') (fun _ _=>False) s₁) (fun _ _=>False) s)
  (n:Nat) (h:I n s) :
  codeAny (model prog w) A (.compLoop (.ListComp elt [⟨target,iter,ifs,0⟩] scope pos) 0 it acc env) R s:=by
 refine codeAny_loop rfl I (fun n s hI=>?_) n h
 show wpAny _ A ((compTurn (.ListComp elt [⟨target,iter,ifs,0⟩] scope pos) 0 it acc env).onRaise (fun x=>do noteFrame x env; theTreesLotGoes x)) _ _ s
 refine wpAny_noted ?_
 rw [compTurn_list]
 refine wpAny_bind (wpAny_standAt (wpAny_bind (wpAny_mono (turn n s hI) (fun r s₁ h₁=>?_) fun _ _ h'=>h'.elim)))
 cases r with
 | none=>exact wpAny_pure h₁
 | some v =>
  refine wpAny_bind (wpAny_mono h₁ (fun _ s₁' h₁'=>?_) fun _ _ h'=>h'.elim)
  refine wpAny_bind (wpAny_mono h₁' (fun _ s₂ h₂=>wpAny_bind (wpAny_mono h₂ (fun ok s₃ h₃=>?_) fun _ _ h'=>h'.elim)) fun _ _ h'=>h'.elim)
  cases ok with
  | false=>exact wpAny_pure ⟨rfl,h₃⟩
  | true =>
   exact wpAny_bind (wpAny_bind (wpAny_mono h₃ (fun x s₄ h₄=>wpAny_bind (wpAny_mono h₄ (fun _ s₅ h₅=>wpAny_pure (wpAny_pure ⟨rfl,h₅⟩)) fun _ _ h'=>h'.elim)) fun _ _ h'=>h'.elim))
theorem compσ_len (k:Nat) (fr:List Nat) (σ:St):(compσ k fr σ).length = k + fr.length:=by
 unfold compσ; rw [List.length_append,List.length_replicate,List.length_map]
theorem compσ_weak {k:Nat} {fr:List Nat} {σ σ2:St} (hd:σ2.drop k = (compσ k fr σ).drop k):∀ (i:Nat) v,(compσ k fr σ)[i]? = some (some v)->σ2[i]? = some (some v):=by
 intro i v h
 by_cases hi:i < k
 ·unfold compσ at h
  rw [List.getElem?_append_left (by rw [List.length_replicate]; exact hi),List.getElem?_replicate] at h
  rw [if_pos hi] at h; cases h
 ·have e:∀ l:St,l[i]? = (l.drop k)[i - k]?:=fun l=>by rw [List.getElem?_drop]; congr 1; omega
  rw [e] at h ⊢
  rw [hd]; exact h
theorem Inv.nsch {X:Cx} {pins:List (Addr × Obj)} {σ:St} {H:Hp} {s:Shared} {C:Addr} {h':Heap} (I:Inv X pins σ H s) (sb:Heap.SameBut C s.heap h') (hC:H C = none) (h1:X.s₀.heap.objs.size <= C) (h2:C ≠ X.env.locals)
  (h3:∀ x c,X.env.cells.lookup x = some c->c ≠ C) (h4:∀ p ∈ X.pn ++ pins,p.1 ≠ C):Inv X pins σ H { s with heap:=h' }:=by
 have nc:∀ b:Addr,b ∉ [C]->b ≠ C:=fun b z w=>z (by rw [w]; exact List.mem_cons_self)
 refine Inv.call (s:=s) I (h':=h') (g':=s.gens) (d':=s.drawn) (t':=s.toks) (ch:=[C]) ⟨fun b o e n _ hx=>(sb.2 b (nc b hx)).trans e,fun b o e n _ hx=>⟨o.slots,(sb.2 b (nc b hx)).trans e⟩,fun _ _ _ n _=>n,fun b o e hx=>⟨o,(sb.2 b (nc b hx)).trans e⟩,fun _ _ e=>e,fun _ _ _ e=>e,fun b ps e=>⟨#[],by rw [Array.append_empty]; exact e⟩⟩ (fun b u e=>?_) I.bare (fun b hb=>?_)
 ·refine (I.hok b u e).stay (fun c v hc' q'=>(sb.2 c ?_).trans q') (fun _ q'=>q') fun _ _ q'=>q'
  rcases hc' with w | w
  ·rw [w]; exact Br e hC
  ·exact Br w hC
 ·rw [List.mem_singleton.mp hb]
  exact ⟨.inr h1,h2,h3,h4⟩
theorem Ue {X:Cx} {elt tg iter:Expr} {ifs:List Expr} {scope:Scope} {pos:Pos} {wi:TI} {g:TG} {tc:TT} {te:TE} {k:Nat} {fr:List Nat} {N' fn:List Str} (hc:X.calm = true)
  (hi:PI X tg iter wi) (hN:N'.length = k + fr.length)
  (hfr:∀ j y,N'[k + j]? = some y->∀ i,fr[j]? = some i->X.N[i]? = some y/\X.env.kindOf y = some .cell/\(compEnvC scope (De fn X.env) 0 X.env).kindOf y = some .cell/\y ∈ fn)
  (hfn:∀ y ∈ fn,X.env.kindOf y = some .cell)
  (hkd:∀ y,((compEnvC scope (De fn X.env) 0 X.env).kindOf y = some .cell\/(compEnvC scope (De fn X.env) 0 X.env).kindOf y = some .free)->y ∈ fn)
  (hg:∀ C fp s H,PG (Dm X scope N' fn C fp s H) tg g) (ht:∀ C fp s H,Qm (Dm X scope N' fn C fp s H) ifs tc) (he:∀ C fp s H,PE (Dm X scope N' fn C fp s H) elt te)
  (hclos:closureFor scope X.env = pure (De fn X.env)) (hcell:∀ y ∈ scope.names,y.2 ≠ .cell) (hkind:scope.kind = .function) (hnames:∀ y ∈ scope.names,y.2 = .local->scope.names.lookup y.1 = some .local)
  (hs:∀ x,foldedSetIterable iter X.env x = pure x:=by intro _; rfl) {pins:List (Addr × Obj)} {s:Shared} {σ:St} {H:Hp} {Q:VK} {use:Option (Value->Sem Unit)} {Qc:Value->Shared->Prop} {cpos:Pos} (I:Inv X pins σ H s) (h:Lj wi g tc te k fr σ H Q)
  (fin:∀ (H3:Hp) (s4:Shared) (D C:Addr) (m:Str->Option Value),s4.heap.Ns C m->Inv X pins σ H3 s4->H3 C = none->X.s₀.heap.objs.size <= C->C ≠ X.env.locals->(∀ x c,X.env.cells.lookup x = some c->c ≠ C)->(∀ p ∈ X.pn ++ pins,p.1 ≠ C)->Q (.ref D) H3 ->
   compPost (model X.prog X.w) X.A X.xe use Qc (.ref D) C (.ok .next) s4) :
  wpAny (model X.prog X.w) X.A (comprehension (.ListComp elt [⟨tg,iter,ifs,0⟩] scope pos) scope X.env cpos (newList []) false (eval iter X.env) use) Qc X.xe s:=by
 refine wpAny_comprehension_free (use:=use) rfl hs hclos hkind hnames (thn (hi pins s σ H _ I h) fun v s1 h1=>thn h1 fun itv s2 h2=>?_)
 obtain ⟨it,fp,tn,J,H2,e,I2,T,st2,f2,q⟩:=h2
 subst e
 have hfr2:H2 s2.heap.objs.size = none:=I2.hok.fresh (Nat.le_refl _)
 obtain ⟨W,⟨m0,w0⟩,turn⟩:=q s2.heap.objs.size hfr2
 refine wpAny_newObj_type (wpAny_newFunctionEnv hcell (by intro y hy; simp at hy) (fun h₁ hns₁ hsb₁=>?_) hkind)
 dsimp only at hns₁ hsb₁ ⊢
 generalize hHH:s2.heap.push { cls:=.type "list",dict:=none,data:=.seq ([]:List Value).toArray } = HH at hns₁ hsb₁ ⊢
 have hC:HH.objs.size = s2.heap.objs.size + 1:=by rw [<- hHH,Heap.size_push]
 have hDC:s2.heap.objs.size ≠ HH.objs.size:=by rw [hC]; exact Nat.ne_of_lt (Nat.lt_succ_self _)
 have hCle:s2.heap.objs.size <= HH.objs.size:=by rw [hC]; exact Nat.le_succ _
 have below:∀ b,b < s2.heap.objs.size->b ≠ HH.objs.size:=fun b hb=>by rw [hC]; exact Nat.ne_of_lt (Nat.lt_succ_of_lt hb)
 have old:∀ b o,s2.heap.get? b = some o->h₁.get? b = some o:=fun b o e=>hsb₁.extBut b o (below b (Heap.lt_size e)) (Heap.get?_push_of_some _ (hHH ▸ Heap.get?_push_of_some _ e))
 have hacc:h₁.get? s2.heap.objs.size = some { cls:=.type "list",dict:=none,data:=.seq ([]:List Value).toArray }:=hsb₁.extBut _ _ hDC (Heap.get?_push_of_some _ (hHH ▸ Heap.get?_push_size _ rfl))
 have hst₁:tn 0 h₁:=T.keep _ _ _ st2 fun b _ o e=>old b o e
 -- the cells from around
 have hcl:∀ x c,(De fn X.env).lookup x = some c->X.env.cells.lookup x = some c:=fun x c e=>by
  obtain ⟨h1,h2⟩:=Ro e
  obtain ⟨c',e'⟩:=I2.ok.has x (.inl (hfn x h1))
  rw [h2,e']; rfl
 have kd0:∀ C y,(compEnvC scope (De fn X.env) C X.env).kindOf y = (compEnvC scope (De fn X.env) 0 X.env).kindOf y:=fun _ _=>rfl
 have fpLt:∀ b ∈ fp,b < s2.heap.objs.size:=fun b hb=>by obtain ⟨o,e,_⟩:=T.obj _ _ st2 b hb; exact Heap.lt_size e
 have cLt:∀ x c,(De fn X.env).lookup x = some c->c < s2.heap.objs.size:=fun x c e=>by obtain ⟨v,z⟩:=I2.cell x c (hcl x c e); exact z.lt
 -- the block's context
 generalize hX:Dm X scope N' fn HH.objs.size fp s2 H2 = X'
 have ok:X'.Ok:=by
  subst hX
  exact {
   mod:=I2.ok.mod
   kind:=hkind
   glob:=I2.ok.glob
   blt:=I2.ok.blt
   above:=hCle
   inj:=fun x y c h1 h2=>I2.ok.inj x y c (hcl x c h1) (hcl y c h2)
   has:=fun x hx=>⟨_,Rq (hkd x hx)⟩
   cab:=fun x c z=>by cases z
   hd:=fun _=>I2.ok.hd hc
   frames:=I2.ok.frames
   stk:=.inl rfl
   exf:=fun b hb=>⟨Nat.ne_of_lt (Nat.lt_of_lt_of_le (fpLt b hb) hCle),fun x c e z=>by
    obtain ⟨_,_,_,_,f4,_⟩:=f2 b hb
    exact f4 x c (hcl x c e) z⟩
   bs:=I2.bs
   bsz:=Nat.le_trans I2.ok.bsz I2.sz
   noex:=fun b o e z=>by
    obtain ⟨_,_,_,f3,_,_⟩:=f2 b z
    rcases f3 with w | w
    ·exact I2.ok.noex b o e w
    ·have h1:=(I2.ok.bs b o e).1
     exact absurd (Nat.lt_of_lt_of_le (Heap.lt_size h1) w) (Nat.lt_irrefl _)
   exfs:=fun b z hb=>by
    obtain ⟨_,f1,f2',_⟩:=f2 b z
    rcases List.mem_cons.mp (I2.stkSub b hb) with w | w
    ·exact f1 w
    ·exact f2' w
   funs:=I2.stack
   frf:=I2.stkFree }
 have un1:Un X'.fs X'.ex H2 (upd H2 s2.heap.objs.size (.lst [])) s2.heap h₁:=Un.laid old (Nat.le_refl _) hfr2
 have hok1:HOk X.prog X.w (upd H2 s2.heap.objs.size (.lst [])) h₁:=I2.hok.laid old (Nat.le_refl _) ⟨Nat.zero_le _,[],0,.nil,hacc⟩
 have nC:H2 HH.objs.size = none:=I2.hok.fresh hCle
 have I0:∀ tk,Inv X' [] (compσ k fr σ) (upd H2 s2.heap.objs.size (.lst [])) { s2 with heap:=h₁,toks:=tk }:=fun tk=>by
  have ex:X'.env = compEnvC scope (De fn X.env) HH.objs.size X.env:=by subst hX; rfl
  refine ⟨ok,by subst hX; rfl,I2.bare,by subst hX; exact un1,?_,?_,?_,?_,?_,by subst hX; exact hok1,?_⟩
  ·obtain ⟨m,hn,hl⟩:=I2.loc
   refine ⟨_,by rw [ex]; exact hns₁,fun i x v e1 e2 e3=>?_⟩
   have e1':N'[i]? = some x:=by subst hX; exact e1
   have hik:k <= i:=by
    rcases Nat.lt_or_ge i k with z | z
    ·unfold compσ at e2
     rw [List.getElem?_append_left (by rw [List.length_replicate]; exact z),List.getElem?_replicate,if_pos z] at e2
     cases e2
    ·exact z
   obtain ⟨j,rfl⟩:=Nat.exists_eq_add_of_le hik
   have e2':(fr.map fun i=>(σ[i]?).join)[j]? = some (some v):=by
    unfold compσ at e2
    rw [List.getElem?_append_right (by rw [List.length_replicate]; omega),List.length_replicate] at e2
    simpa using e2
   rw [List.getElem?_map] at e2'
   cases ef:fr[j]? with
   | none=>rw [ef] at e2'; cases e2'
   | some i0 =>
    rw [ef] at e2'
    have e4:(σ[i0]?).join = some v:=Option.some.inj e2'
    obtain ⟨a1,a2,a3,a4⟩:=hfr j x e1' i0 ef
    have e5:σ[i0]? = some (some v):=by
     cases z:σ[i0]? with
     | none=>rw [z] at e4; cases e4
     | some o=>rw [z] at e4; have:o = some v:=e4; rw [this]
    obtain ⟨u,ru,l⟩:=hl i0 x v a1 e5 (.inr (.inl a2))
    refine ⟨u,ru,.inr ⟨.inl (by rw [ex,kd0]; exact a3),?_⟩⟩
    rcases l with ⟨lk,_⟩ | ⟨_,c,lc,lcell⟩
    ·rw [a2] at lk; cases lk
    ·refine ⟨c,by rw [ex]; show (De fn X.env).lookup x = some c; rw [Rq a4,lc]; rfl,?_⟩
     obtain ⟨o,ho,hd⟩:=lcell
     exact ⟨o,old c o ho,hd⟩
  ·intro x c e
   rw [ex] at e
   obtain ⟨v,o,ho,hd⟩:=I2.cell x c (hcl x c e)
   exact ⟨v,o,old c o ho,hd⟩
  ·rw [ex]
   show (upd H2 s2.heap.objs.size (.lst [])) HH.objs.size = none
   rw [Bi hDC.symm]; exact nC
  ·intro x c e
   rw [ex] at e
   rw [Bi (Nat.ne_of_lt (cLt x c e))]
   exact I2.freeC x c (hcl x c e)
  ·intro p hp
   subst hX
   exact absurd (show p ∈ ([]:List (Addr × Obj)) from hp) (by simp)
  ·rw [compσ_len]; subst hX; exact hN.symm
 have fpOk:∀ {H':Hp} {pins':List (Addr × Obj)},(∀ b ∈ fp,H' b = none)->pins' = []->∀ b ∈ fp,Rv X' pins' H' b:=fun {H' pins'} hn e b hb=>by
  subst e
  obtain ⟨_,f1,f2',f3,f4,f5⟩:=f2 b hb
  subst hX
  refine ⟨hn b hb,Nat.ne_of_lt (Nat.lt_of_lt_of_le (fpLt b hb) hCle),fun z=>?_,.inl hb,fun x c e=>f4 x c (hcl x c e),fun p hp=>absurd (show p ∈ ([]:List (Addr × Obj)) from hp) (by simp)⟩
  rcases List.mem_cons.mp (I2.stkSub b z) with w | w
  ·exact f1 w
  ·exact f2' w
 have eqP:X'.prog = X.prog/\X'.w = X.w/\X'.K = X.K/\X'.calm = true/\X'.A = X.A/\X'.env = compEnvC scope (De fn X.env) HH.objs.size X.env/\X'.N = N':=by subst hX; exact ⟨rfl,rfl,rfl,hc,rfl,rfl,rfl⟩
 obtain ⟨eP,eW,eK,eC,eA,eE,eN⟩:=eqP
 have hg':PG X' tg g:=by subst hX; exact hg _ _ _ _
 have ht':Qm X' ifs tc:=by subst hX; exact ht _ _ _ _
 have he':PE X' elt te:=by subst hX; exact he _ _ _ _
 have eX:X'.xe = fun _ _=>False:=by subst hX; rfl
 have loop:∀ s₃:Shared,s₃ = { s2 with heap:=h₁,toks:=s2.toks + ([]:List (Str × Value)).length } ->
   codeAny (model X.prog X.w) X.A (.compLoop (.ListComp elt [⟨tg,iter,ifs,0⟩] scope pos) 0 (.ref it) (.ref s2.heap.objs.size) (compEnvC scope (De fn X.env) HH.objs.size X.env))
    (compPost (model X.prog X.w) X.A X.xe use Qc (.ref s2.heap.objs.size) HH.objs.size) s₃:=by
  rintro s₃ rfl
  refine Abf (fun n s'=>∃ i H',Inv X' [] (compσ k fr σ) H' s'/\tn i s'.heap/\(∀ b ∈ fp,H' b = none)/\W i n H') ?_ m0 ⟨0,_,I0 _,hst₁,fun b hb=>by rw [Bi (Nat.ne_of_lt (fpLt b hb))]; exact (f2 b hb).1,w0⟩
  rintro n s3 ⟨i,H3,I3,st3,fr3,w3⟩
  rcases turn i n H3 w3 with ⟨stop,qn⟩ | ⟨go,step⟩
  ·have d:=T.done X' eP eW eK eC i [] s3 (compσ k fr σ) H3 (fun _ _=>False) I3 (fpOk fr3 rfl) st3 stop
   rw [eA] at d
   refine thn d fun r s4 ⟨hr,I4⟩=>?_
   subst hr
   obtain ⟨m,hn,_⟩:=I4.loc
   rw [eE] at hn
   have u4:Un (frs X.stack) fp H2 H3 s2.heap s4.heap:=by have:=I4.base; subst hX; exact this
   have nC3:H3 HH.objs.size = none:=by have:=I4.free; rw [eE] at this; exact this
   have hok5:HOk X.prog X.w H3 s4.heap:=fun b u e=>by
    have z:=I4.hok b u e
    rw [eP,eW] at z
    exact z
   have os4:s4.os = s2.os:=by have:=I4.os; subst hX; exact this
   obtain ⟨hh,gg,dd,tt,oo⟩:=s4
   obtain rfl:oo = s2.os:=os4
   have Ix:Inv X pins σ H3 ⟨hh,gg,dd,tt,s2.os⟩:=Inv.call (s:=s2) I2 (h':=hh) (g':=gg) (d':=dd) (t':=tt) (ch:=fp) u4 hok5 I4.bare fun b hb=>by
    obtain ⟨_,f1,_,f3,f4,f5⟩:=f2 b hb
    exact ⟨f3,f1,f4,f5⟩
   refine fin H3 _ _ _ m hn Ix nC3 (Nat.le_trans I2.sz hCle) ?_ (fun x c e=>?_) (fun p hp=>?_) qn
   ·obtain ⟨_,⟨o,_,_,ho,_⟩,_⟩:=I2.loc
    exact (below _ (Heap.lt_size ho)).symm
   ·obtain ⟨v,z⟩:=I2.cell x c e
    exact below _ z.lt
   ·exact below _ (Heap.lt_size (I2.pin p hp).1)
  ·have d:=T.item X' eP eW eK eC i [] s3 (compσ k fr σ) H3 (fun _ _=>False) I3 (fpOk fr3 rfl) st3 go
   rw [eA] at d
   refine thn d fun r s4 ⟨u,hr,h4⟩=>?_
   subst hr
   refine thn h4 fun _ s5 ⟨x,H5,I5,r5,y5,st5,fr5⟩=>?_
   have I5':=I5.pinned (fpOk fr5 rfl) (T.obj _ _ st5)
   have a1:=hg' _ s5 (compσ k fr σ) H5 x u _ I5' r5 (step x H5 y5)
   rw [eP,eW,eA,eE,eX] at a1
   refine thn a1 fun _ s6 ⟨σ6,H6,I6,q6a,q6⟩=>?_
   have a2:=ht' _ s6 σ6 H6 _ I6 q6
   rw [eP,eW,eA,eE,eX] at a2
   refine thn a2 fun b s7 ⟨H7,I7,q7⟩=>?_
   have again:∀ {H8:Hp} {s8:Shared},Inv X' ([] ++ Qn fp s5.heap) σ6 H8 s8->(∃ m',m' < n/\W (i + 1) m' H8)->∃ m,m < n/\∃ i H',Inv X' [] (compσ k fr σ) H' s8/\tn i s8.heap/\(∀ b ∈ fp,H' b = none)/\W i m H':=fun {H8 s8} I8 ⟨m',hm,w8⟩=>by
    refine ⟨m',hm,i + 1,H8,I8.unpinned.weak ?_ (compσ_weak q6a),T.keep _ _ _ st5 fun b hb o e=>(I8.pin (b,o) (List.mem_append_right _ (List.mem_append_right _ (Jh hb e)))).1,fun b hb=>?_,w8⟩
    ·rw [compσ_len,I8.len,eN,hN]
    ·obtain ⟨o,e,_⟩:=T.obj _ _ st5 b hb
     exact (I8.pin (b,o) (List.mem_append_right _ (List.mem_append_right _ (Jh hb e)))).2.1
   cases b with
   | false =>
    rw [if_neg Bool.false_ne_true] at q7 ⊢
    exact again I7 q7
   | true =>
    rw [if_pos rfl] at q7 ⊢
    have a3:=he' _ s7 σ6 H7 _ I7 q7
    rw [eP,eW,eA,eE,eX] at a3
    refine thn a3 fun yv s8 ⟨y,H8,I8,r8,ys,hD,hz,q8⟩=>?_
    have a4:=Uj (X:=X') _ s8 σ6 H8 (.ref s2.heap.objs.size) [y] (.ref s2.heap.objs.size) [yv] (fun _ H9=>∃ m',m' < n/\W (i + 1) m' H9) I8 rfl (.cons r8 .nil) ⟨_,ys,y,rfl,rfl,hD,hz,q8⟩
    rw [eP,eW,eA,eX] at a4
    exact thn a4 fun _ s9 ⟨_,H9,I9,_,q9⟩=>again I9 q9
 exact codeAny_compStart_list (loop _ rfl) (T.self _ 0 _ _ _ hst₁ (loop _ rfl))
theorem Aem {X:Cx} {elt tg iter:Expr} {ifs:List Expr} {scope:Scope} {pos:Pos} {wi:TI} {g:TG} {tc:TT} {te:TE} {k:Nat} {fr:List Nat} {N' fn:List Str} (hc:X.calm = true)
  (hi:PI X tg iter wi) (hN:N'.length = k + fr.length)
  (hfr:∀ j y,N'[k + j]? = some y->∀ i,fr[j]? = some i->X.N[i]? = some y/\X.env.kindOf y = some .cell/\(compEnvC scope (De fn X.env) 0 X.env).kindOf y = some .cell/\y ∈ fn)
  (hfn:∀ y ∈ fn,X.env.kindOf y = some .cell)
  (hkd:∀ y,((compEnvC scope (De fn X.env) 0 X.env).kindOf y = some .cell\/(compEnvC scope (De fn X.env) 0 X.env).kindOf y = some .free)->y ∈ fn)
  (hg:∀ C fp s H,PG (Dm X scope N' fn C fp s H) tg g) (ht:∀ C fp s H,Qm (Dm X scope N' fn C fp s H) ifs tc) (he:∀ C fp s H,PE (Dm X scope N' fn C fp s H) elt te)
  (hclos:closureFor scope X.env = pure (De fn X.env)) (hcell:∀ y ∈ scope.names,y.2 ≠ .cell) (hkind:scope.kind = .function) (hnames:∀ y ∈ scope.names,y.2 = .local->scope.names.lookup y.1 = some .local)
  (hs:∀ x,foldedSetIterable iter X.env x = pure x:=by intro _; rfl):PE X (.ListComp elt [⟨tg,iter,ifs,0⟩] scope pos) (Lj wi g tc te k fr):=by
 intro pins s σ H Q I h
 rw [eval_ListComp]
 refine Ue hc hi hN hfr hfn hkd hg ht he hclos hcell hkind hnames hs I h fun H3 s4 D C m hn Ix hC h1 h2 h3 h4 q=>?_
 exact ⟨m,hn,fun h' sb=>⟨.ref D,H3,Inv.nsch Ix sb hC h1 h2 h3 h4,rfl,q⟩⟩
theorem Ae9 {X:Cx} {elt tg iter:Expr} {ifs:List Expr} {scope:Scope} {pos px spos:Pos} {i:Nat} {x:Str} {wi:TI} {g:TG} {tc:TT} {te:TE} {k:Nat} {fr:List Nat} {N' fn:List Str} (hc:X.calm = true)
  (hi:PI X tg iter wi) (hN:N'.length = k + fr.length)
  (hfr:∀ j y,N'[k + j]? = some y->∀ i,fr[j]? = some i->X.N[i]? = some y/\X.env.kindOf y = some .cell/\(compEnvC scope (De fn X.env) 0 X.env).kindOf y = some .cell/\y ∈ fn)
  (hfn:∀ y ∈ fn,X.env.kindOf y = some .cell)
  (hkd:∀ y,((compEnvC scope (De fn X.env) 0 X.env).kindOf y = some .cell\/(compEnvC scope (De fn X.env) 0 X.env).kindOf y = some .free)->y ∈ fn)
  (hg:∀ C fp s H,PG (Dm X scope N' fn C fp s H) tg g) (ht:∀ C fp s H,Qm (Dm X scope N' fn C fp s H) ifs tc) (he:∀ C fp s H,PE (Dm X scope N' fn C fp s H) elt te)
  (hclos:closureFor scope X.env = pure (De fn X.env)) (hcell:∀ y ∈ scope.names,y.2 ≠ .cell) (hkind:scope.kind = .function) (hnames:∀ y ∈ scope.names,y.2 = .local->scope.names.lookup y.1 = some .local)
  (hs:∀ x,foldedSetIterable iter X.env x = pure x:=by intro _; rfl) (hNd:X.N.Nodup) (hix:X.N[i]? = some x) (hx:Loc X.env.scope x) (hsw:swapsWith (.ListComp elt [⟨tg,iter,ifs,0⟩] scope pos) (some (.Name x px)) spos.line X.env = pure true)
  (hf:X.fn x = true\/X.env.scope.names.lookup x = some .local:=by first | exact .inl rfl | exact .inr rfl | assumption):PS X (.Assign [.Name x px] (.ListComp elt [⟨tg,iter,ifs,0⟩] scope pos) spos) (Tl (Lj wi g tc te k fr) (Jd i)):=by
 intro pins s σ H D I h
 rw [exec_Assign_Name_used _ _ _ _ hsw]
 refine wpAny_bind (wpAny_standAt (wpAny_bind ?_))
 show wpAny _ X.A (do let _ <- comprehension (.ListComp elt [⟨tg,iter,ifs,0⟩] scope pos) scope X.env _ (newList []) false (eval iter X.env) (some (assign (.Name x px) X.env))) _ _ s
 refine wpAny_bind (wpAny_mono (Ue (use:=some (assign (.Name x px) X.env)) (Qc:=fun _ s'=>SP X pins D .next s') hc hi hN hfr hfn hkd hg ht he hclos hcell hkind hnames hs I h fun H3 s4 D' C m hn Ix hC h1 h2 h3 h4 q=>?_) (fun _ s' hq=>wpAny_pure (wpAny_pure hq)) fun _ _ e=>e)
 show wpAny _ X.A (assign (.Name x px) X.env (.ref D')) _ _ _
 refine wpAny_assign_Name (Uc Ix hNd hix hx (v:=.ref D') rfl (fun s' I' ⟨a,sb,ha⟩=>?_) hf)
 have nCa:C ≠ a:=by
  rcases ha with w | w
  ·rw [w]; exact h2
  ·exact (h3 _ _ w).symm
 exact ⟨m,hn.sameBut sb nCa,fun h' sb'=>⟨_,H3,Inv.nsch I' sb' hC h1 h2 h3 h4,q⟩⟩
theorem Bx {X:Cx} {scope:Scope} {N' fn:List Str} {C:Addr} {fp:List Addr} {s:Shared} {H:Hp}:(Dm X scope N' fn C fp s H).K = X.K:=rfl
theorem Afa {X:Cx} {pos:Pos} {K':PySem.W.Frag} (hK:X.K = K') {es:List Expr} {k:Nat} {t:TGs} {n:Nat} (hc:X.calm = true) (h:PGs X es t)
  (hn:(assignEach es X.env).length = n:=by rfl) (hst:(assignEach es X.env).findIdx? (·.1) = none:=by rfl):PG X (.Tuple es k pos) (Wm K' n t):=by
 subst hK
 exact Lg hc h hn hst
theorem Ls:∀ {l:List (Str × NameKind)} {y:Str} {k:NameKind},l.lookup y = some k->(y,k) ∈ l
 | [],_,_,h=>by cases h
 | (x,j) :: r,y,k,h=>by
  rw [List.lookup_cons] at h
  cases e:y == x with
  | true =>
   rw [e] at h
   cases h
   rw [eq_of_beq e]; exact List.mem_cons_self
  | false =>
   rw [e] at h
   exact List.mem_cons_of_mem _ (Ls h)
theorem Rx {X:Cx} {elt tg iter:Expr} {ifs:List Expr} {scope:Scope} {pos:Pos} {wi:TI} {g:TG} {tc:TT} {te:TE} (k:Nat) (fr:List Nat) (N' fn:List Str) (hc:X.calm = true)
  (hi:PI X tg iter wi) (hN:N'.length = k + fr.length)
  (hfr:∀ j y,N'[k + j]? = some y->∀ i,fr[j]? = some i->X.N[i]? = some y/\X.env.kindOf y = some .cell/\(compEnvC scope (De fn X.env) 0 X.env).kindOf y = some .cell/\y ∈ fn)
  (hfn:∀ y ∈ fn,X.env.kindOf y = some .cell) (hkd:∀ p ∈ scope.names,(p.2 = .cell\/p.2 = .free)->p.1 ∈ fn)
  (hg:∀ C fp s H,PG (Dm X scope N' fn C fp s H) tg g) (ht:∀ C fp s H,Qm (Dm X scope N' fn C fp s H) ifs tc) (he:∀ C fp s H,PE (Dm X scope N' fn C fp s H) elt te)
  (hclos:closureFor scope X.env = pure (De fn X.env)) (hcell:∀ y ∈ scope.names,y.2 ≠ .cell) (hkind:scope.kind = .function) (hnames:∀ y ∈ scope.names,y.2 = .local->scope.names.lookup y.1 = some .local)
  (hs:∀ x,foldedSetIterable iter X.env x = pure x:=by intro _; rfl):PE X (.ListComp elt [⟨tg,iter,ifs,0⟩] scope pos) (Lj wi g tc te k fr):=by
 refine Aem hc hi hN hfr hfn (fun y h=>?_) hg ht he hclos hcell hkind hnames hs
 have e:∀ k,(compEnvC scope (De fn X.env) 0 X.env).kindOf y = some k->∃ p ∈ scope.names,p.1 = y/\(p.2 = .free\/p.2 = k):=by
  intro k h
  have m:=Ls (show (relabel scope X.env).names.lookup y = some k from h)
  obtain ⟨p,hp,ep⟩:=List.mem_map.mp (show (y,k) ∈ scope.names.map _ from m)
  obtain ⟨n,kd⟩:=p
  refine ⟨(n,kd),hp,?_⟩
  dsimp only at ep
  split at ep
  ·rename_i c
   simp only [Bool.and_eq_true,beq_iff_eq] at c
   exact ⟨(Prod.mk.inj ep).1,.inl c.1.1⟩
  ·exact ⟨(Prod.mk.inj ep).1,.inr (Prod.mk.inj ep).2⟩
 rcases h with h | h
 ·obtain ⟨p,hp,z1,z⟩:=e _ h
  rw [<- z1]; exact hkd p hp (z.elim .inr .inl)
 ·obtain ⟨p,hp,z1,z⟩:=e _ h
  rw [<- z1]; exact hkd p hp (.inr (z.elim id id))
theorem Vv {X:Cx} {elt tg iter:Expr} {ifs:List Expr} {scope:Scope} {pos px spos:Pos} {i:Nat} {x:Str} {wi:TI} {g:TG} {tc:TT} {te:TE} (k:Nat) (fr:List Nat) (N' fn:List Str) (hc:X.calm = true)
  (hi:PI X tg iter wi) (hN:N'.length = k + fr.length)
  (hfr:∀ j y,N'[k + j]? = some y->∀ i,fr[j]? = some i->X.N[i]? = some y/\X.env.kindOf y = some .cell/\(compEnvC scope (De fn X.env) 0 X.env).kindOf y = some .cell/\y ∈ fn)
  (hfn:∀ y ∈ fn,X.env.kindOf y = some .cell) (hkd:∀ p ∈ scope.names,(p.2 = .cell\/p.2 = .free)->p.1 ∈ fn)
  (hg:∀ C fp s H,PG (Dm X scope N' fn C fp s H) tg g) (ht:∀ C fp s H,Qm (Dm X scope N' fn C fp s H) ifs tc) (he:∀ C fp s H,PE (Dm X scope N' fn C fp s H) elt te)
  (hclos:closureFor scope X.env = pure (De fn X.env)) (hcell:∀ y ∈ scope.names,y.2 ≠ .cell) (hkind:scope.kind = .function) (hnames:∀ y ∈ scope.names,y.2 = .local->scope.names.lookup y.1 = some .local)
  (hs:∀ x,foldedSetIterable iter X.env x = pure x:=by intro _; rfl) (hNd:X.N.Nodup) (hix:X.N[i]? = some x) (hx:Loc X.env.scope x) (hsw:swapsWith (.ListComp elt [⟨tg,iter,ifs,0⟩] scope pos) (some (.Name x px)) spos.line X.env = pure true)
  (hf:X.fn x = true\/X.env.scope.names.lookup x = some .local:=by first | exact .inl rfl | exact .inr rfl | assumption):PS X (.Assign [.Name x px] (.ListComp elt [⟨tg,iter,ifs,0⟩] scope pos) spos) (Tl (Lj wi g tc te k fr) (Jd i)):=by
 refine Ae9 hc hi hN hfr hfn (fun y h=>?_) hg ht he hclos hcell hkind hnames hs hNd hix hx hsw hf
 have e:∀ k,(compEnvC scope (De fn X.env) 0 X.env).kindOf y = some k->∃ p ∈ scope.names,p.1 = y/\(p.2 = .free\/p.2 = k):=by
  intro k h
  have m:=Ls (show (relabel scope X.env).names.lookup y = some k from h)
  obtain ⟨p,hp,ep⟩:=List.mem_map.mp (show (y,k) ∈ scope.names.map _ from m)
  obtain ⟨n,kd⟩:=p
  refine ⟨(n,kd),hp,?_⟩
  dsimp only at ep
  split at ep
  ·rename_i c
   simp only [Bool.and_eq_true,beq_iff_eq] at c
   exact ⟨(Prod.mk.inj ep).1,.inl c.1.1⟩
  ·exact ⟨(Prod.mk.inj ep).1,.inr (Prod.mk.inj ep).2⟩
 rcases h with h | h
 ·obtain ⟨p,hp,z1,z⟩:=e _ h
  rw [<- z1]; exact hkd p hp (z.elim .inr .inl)
 ·obtain ⟨p,hp,z1,z⟩:=e _ h
  rw [<- z1]; exact hkd p hp (.inr (z.elim id id))
theorem Aan {K:PySem.W.Frag} {σ:St} {H:Hp} {Q:VK} {D a:Addr} {xs:List V} {g:TG} {tc:TT} {te:TE} {k:Nat} {fr:List Nat} (Pv:Nat->Hp->Prop)
  (h0:Pv 0 H) (hl:∀ i H',i <= xs.length->Pv i H'->SqL K H' a xs)
  (hs:∀ i x H' (N:Hp->Prop),xs[i]? = some x->Pv i H'->(∀ H'',Pv (i + 1) H''->N H'')->g x (compσ k fr σ) H' fun σ2 H2=>σ2.drop k = (compσ k fr σ).drop k/\tc σ2 H2 fun b H3 =>
   if b = true then te σ2 H3 (fun y H4=>∃ ys,H4 D = some (.lst ys)/\ys.length < sizeLine/\N (upd H4 D (.lst (ys ++ [y])))) else N H3)
  (hd:∀ H',Pv xs.length H'->Q (.ref D) H') :
  ∃ W:Nat->Nat->Hp->Prop,(∃ m,W 0 m H)/\∀ i m H,W i m H->((Itl K a).stop i H/\Q (.ref D) H)\/((Itl K a).go i H/\∀ x H',(Itl K a).yld i H x H'->g x (compσ k fr σ) H' fun σ2 H2 =>
  σ2.drop k = (compσ k fr σ).drop k/\tc σ2 H2 fun b H3=>if b = true then te σ2 H3 (fun y H4=>∃ ys,H4 D = some (.lst ys)/\ys.length < sizeLine/\∃ m',m' < m/\W (i + 1) m' (upd H4 D (.lst (ys ++ [y])))) else ∃ m',m' < m/\W (i + 1) m' H3):=by
 refine ⟨fun i m H=>m = xs.length - i/\i <= xs.length/\Pv i H,⟨xs.length,by simp,Nat.zero_le _,h0⟩,?_⟩
 rintro i m H' ⟨rfl,hi,p⟩
 have q:=hl i H' hi p
 by_cases hlt:i < xs.length
 ·refine .inr ⟨⟨xs,xs[i],q,by simp [hlt]⟩,fun x H'' y=>?_⟩
  obtain ⟨e,y⟩:=y
  subst e
  exact hs i x _ (fun H''=>∃ m',m' < xs.length - i/\m' = xs.length - (i + 1)/\i + 1 <= xs.length/\Pv (i + 1) H'') (y xs q) p fun H'' p'=>⟨_,by omega,rfl,hlt,p'⟩
 ·have e:i = xs.length:=by omega
  subst e
  exact .inl ⟨⟨xs,q,Nat.le_refl _⟩,hd H' p⟩
theorem Zf {σ:St} {H:Hp} {Q:VK} {D:Addr} {lo:Int} {n:Nat} {g:TG} {tc:TT} {te:TE} {k:Nat} {fr:List Nat} (Pv:Nat->Hp->Prop) (h0:Pv 0 H)
  (hs:∀ i H' (N:Hp->Prop),i < n->Pv i H'->(∀ H'',Pv (i + 1) H''->N H'')->g (.int (lo + i)) (compσ k fr σ) H' fun σ2 H2=>σ2.drop k = (compσ k fr σ).drop k/\tc σ2 H2 fun b H3 =>
   if b = true then te σ2 H3 (fun y H4=>∃ ys,H4 D = some (.lst ys)/\ys.length < sizeLine/\N (upd H4 D (.lst (ys ++ [y])))) else N H3)
  (hd:∀ H',Pv n H'->Q (.ref D) H') :
  ∃ W:Nat->Nat->Hp->Prop,(∃ m,W 0 m H)/\∀ i m H,W i m H->((Itr lo n).stop i H/\Q (.ref D) H)\/((Itr lo n).go i H/\∀ x H',(Itr lo n).yld i H x H'->g x (compσ k fr σ) H' fun σ2 H2 =>
  σ2.drop k = (compσ k fr σ).drop k/\tc σ2 H2 fun b H3=>if b = true then te σ2 H3 (fun y H4=>∃ ys,H4 D = some (.lst ys)/\ys.length < sizeLine/\∃ m',m' < m/\W (i + 1) m' (upd H4 D (.lst (ys ++ [y])))) else ∃ m',m' < m/\W (i + 1) m' H3):=by
 refine ⟨fun i m H=>m = n - i/\i <= n/\Pv i H,⟨n,by simp,Nat.zero_le _,h0⟩,?_⟩
 rintro i m H' ⟨rfl,hi,p⟩
 by_cases hlt:i < n
 ·refine .inr ⟨hlt,fun x H'' y=>?_⟩
  obtain ⟨e,y⟩:=y
  subst e
  subst y
  exact hs i _ (fun H''=>∃ m',m' < n - i/\m' = n - (i + 1)/\i + 1 <= n/\Pv (i + 1) H'') hlt p fun H'' p'=>⟨_,by omega,rfl,hlt,p'⟩
 ·have e:i = n:=by omega
  subst e
  exact .inl ⟨Nat.le_refl _,hd H' p⟩
section
variable {X:Cx} {K':PySem.W.Frag}
theorem Dt (K':PySem.W.Frag) (h:X.K = K':=by rfl):IxR X (Yv K'):=by subst h; exact Ve
theorem Cw (K':PySem.W.Frag) (h:X.K = K':=by rfl):IxR X (Yk K'):=by subst h; exact Sz
theorem Us (K':PySem.W.Frag) (h:X.K = K':=by rfl):OpR X (compareOp .NotIn) (rIn K' true):=by subst h; exact Wc
theorem Qz (K':PySem.W.Frag) (hu:X.A.units + 64 < cLine) (h:X.K = K':=by rfl):OpR X (compareOp .Eq) (Vq K' false):=by subst h; exact AaM hu
theorem Td (K':PySem.W.Frag) (hu:X.A.units + 64 < cLine) (h:X.K = K':=by rfl):OpR X (compareOp .NotEq) (Vq K' true):=by subst h; exact Af3 hu
theorem Gf (K':PySem.W.Frag) (h:X.K = K':=by rfl):Jk X (.builtin "isinstance") (fun vs H Q=>∃ x n t b,vs = [x,.ty n]/\Fb K' H x t/\PySem.W.kitOne K' t (.type n) = some b/\Q (.bl b) H):=by subst h; exact Fk
theorem Db (K':PySem.W.Frag) (h:X.K = K':=by rfl):Jk X (.builtin "len") (fun xs H Q=>∃ p ys,xs = [.ref p]/\(SqL K' H p ys\/SqT K' H p ys)/\Q (.int ys.length) H):=by subst h; exact Jy
end
end L2
set_option Elab.async false
set_option linter.all false
set_option maxRecDepth 100000
set_option maxHeartbeats 4000000
namespace L2
open PySem PySem.Spec PyProof.Rows
theorem Same.laid {H:Hp} {p:Addr} {o:HO} (h:H p = none):Same H (upd H p o):=fun q u e=>by rw [Bi (by intro z; subst z; rw [h] at e; cases e)]; exact e
def Chg (a:Addr) (H H':Hp):Prop:=∀ q o,H q = some o->q ≠ a->H' q = some o
theorem Chg.put {H:Hp} {a:Addr} {o:HO}:Chg a H (upd H a o):=fun q u e n=>by rw [Bi n]; exact e
theorem Same.chg {a:Addr} {H H1 H2:Hp} (x:Same H H1) (y:Chg a H1 H2) (f:H a = none):Same H H2:=fun q o h=>y q o (x q o h) (by intro z; subst z; rw [f] at h; cases h)
section
variable {X:Cx} {es:List Expr} {t:TA} {pos:Pos}
def Zl (t:TA):TE:=fun σ H Q=>t σ H fun xs H1=>xs.length <= sizeLine/\∀ p H2,H1 p = none->Same H1 H2->H2 p = some (.tup xs)->Q (.ref p) H2
def Yt (t:TA):TE:=fun σ H Q=>t σ H fun xs H1=>xs.length <= sizeLine/\∀ p H2,H1 p = none->Same H1 H2->H2 p = some (.lst xs)->Q (.ref p) H2
theorem Di {x1} (h:PA X es t):PE X (.Tuple es x1 pos) (Zl t):=by
 intro pins s σ H Q I hq
 refine wpAny_Tuple_spliced (thn (h pos pins s σ H _ I hq) fun us s1 ⟨xs,H1,I1,r,z,q⟩=>⟨by rw [<- r.length]; exact z,?_⟩)
 have hf:H1 s1.heap.objs.size = none:=I1.hok.fresh (Nat.le_refl _)
 refine ⟨.ref s1.heap.objs.size,upd H1 s1.heap.objs.size (.tup xs),I1.laid (t':=s1.toks) (fun b u e=>Heap.get?_push_of_some _ e) (Nat.le_refl _) ?_,rfl,q _ _ hf (Same.laid hf) Bq⟩
 exact ⟨z,us,r,⟨_,Heap.get?_push_size _ rfl,rfl,_,rfl⟩⟩
theorem Cj (h:PA X es t):PE X (.List es pos) (Yt t):=by
 intro pins s σ H Q I hq
 refine wpAny_List_spliced (thn (h pos pins s σ H _ I hq) fun us s1 ⟨xs,H1,I1,r,z,q⟩=>⟨by rw [<- r.length]; exact z,?_⟩)
 have hf:H1 s1.heap.objs.size = none:=I1.hok.fresh (Nat.le_refl _)
 refine ⟨.ref s1.heap.objs.size,upd H1 s1.heap.objs.size (.lst xs),I1.laid (t':=s1.toks) (fun b u e=>Heap.get?_push_of_some _ e) (Nat.le_refl _) ?_,rfl,q _ _ hf (Same.laid hf) Bq⟩
 exact ⟨z,us,0,r,Heap.get?_push_size _ rfl⟩
def Adf:R2:=fun x y H Q=>∃ l b xs zs,x = .ref l/\y = .ref b/\H l = some (.lst xs)/\H b = some (.lst zs)/\xs.length + zs.length <= sizeLine/\∀ p H',H p = none->Same H H'->H' p = some (.lst (xs ++ zs))->Q (.ref p) H'
theorem Ta:OpR X (binaryOp .Add) Adf:=fun pins s σ H x y v u Q I r1 r2 ⟨l,b,xs,zs,e1,e2,h1,h2,hz,q⟩=>Afx pins s σ H x y v u Q I r1 r2 ⟨l,b,xs,zs,e1,e2,h1,h2,hz,fun p hp=>q p _ hp (Same.laid hp) Bq⟩
def Sc:V->List V->Hp->VK->Prop:=fun x vs H Q=>∃ l xs y,x = .ref l/\vs = [y]/\H l = some (.lst xs)/\xs.length < sizeLine/\∀ H',Chg l H H'->H' l = some (.lst (xs ++ [y]))->Q .non H'
theorem Dq:MtR X "list.append" Sc:=fun pins s σ H x vs v us Q I rx rv ⟨l,xs,y,e1,e2,h1,hz,q⟩=>Uj pins s σ H x vs v us Q I rx rv ⟨l,xs,y,e1,e2,h1,hz,q _ Chg.put Bq⟩
def Wz:V->List V->Hp->VK->Prop:=fun x vs H Q=>∃ l xs,x = .ref l/\vs = []/\H l = some (.lst xs)/\∀ H',Chg l H H'->H' l = some (.lst [])->Q .non H'
theorem Aa8:MtR X "list.clear" Wz:=fun pins s σ H x vs v us Q I rx rv ⟨l,xs,e1,e2,h1,q⟩=>Ab0 pins s σ H x vs v us Q I rx rv ⟨l,xs,e1,e2,h1,q _ Chg.put Bq⟩
variable {K':PySem.W.Frag}
def AdQ (K:PySem.W.Frag):V->Option Int->Option Int->Hp->VK->Prop:=fun x lo hi H Q=>∃ a xs,x = .ref a/\SqL K H a xs/\∀ p H',H p = none->Same H H'->H' p = some (.lst (Rw xs lo hi))->Q (.ref p) H'
theorem AcN (K':PySem.W.Frag) (h:X.K = K':=by rfl):SlR X (AdQ K'):=by
 subst h
 exact fun pins s σ H x v vl vu lo hi sl Q I rx hs pl pu ⟨a,xs,e,hx,q⟩=>AeR pins s σ H x v vl vu lo hi sl Q I rx hs pl pu ⟨a,xs,e,hx,fun p hp=>q p _ hp (Same.laid hp) Bq⟩
theorem Oy (K':PySem.W.Frag) (h:X.K = K':=by rfl):Jk X (.type "list") (fun xs H Q=>∃ p ys,xs = [.ref p]/\(SqL K' H p ys\/SqT K' H p ys)/\∀ l H',H l = none->Same H H'->H' l = some (.lst ys)->Q (.ref l) H'):=by
 subst h
 exact fun pins s σ H xs us Q I r ⟨p,ys,e,hx,q⟩=>Wp pins s σ H xs us Q I r ⟨p,ys,e,hx,fun l hl=>q l _ hl (Same.laid hl) Bq⟩
end
section
variable {σ:St} {H:Hp} {Q:VK} {K:PySem.W.Frag}
theorem Af7 {t:TA} (q:t σ H fun xs H1=>xs.length <= sizeLine/\∀ p H2,H1 p = none->Same H1 H2->H2 p = some (.lst xs)->Q (.ref p) H2):Yt t σ H Q:=q
theorem AgT {t:TA} (q:t σ H fun xs H1=>xs.length <= sizeLine/\∀ p H2,H1 p = none->Same H1 H2->H2 p = some (.tup xs)->Q (.ref p) H2):Zl t σ H Q:=q
theorem Fg {a:Addr} {xs:List V} {y:V} (h:H a = some (.lst xs)) (hl:xs.length < sizeLine) (q:∀ H',Chg a H H'->H' a = some (.lst (xs ++ [y]))->Q .non H'):Sc (.ref a) [y] H Q:=⟨a,xs,y,rfl,rfl,h,hl,q⟩
end
def CP (J:It) (D:Addr) (g:TG) (tc:TT) (te:TE) (k:Nat) (fr:List Nat) (σ:St) (H1:Hp) (Q:VK):Prop :=
 ∃ W:Nat->Nat->Hp->Prop,(∃ m,W 0 m H1)/\∀ i m H,W i m H->(J.stop i H/\Q (.ref D) H)\/(J.go i H/\∀ x H',J.yld i H x H'->g x (compσ k fr σ) H' fun σ2 H2 =>
  σ2.drop k = (compσ k fr σ).drop k/\tc σ2 H2 fun b H3=>if b = true then te σ2 H3 (fun y H4=>∃ ys,H4 D = some (.lst ys)/\ys.length < sizeLine/\∃ m',m' < m/\W (i + 1) m' (upd H4 D (.lst (ys ++ [y])))) else ∃ m',m' < m/\W (i + 1) m' H3)
theorem Xb {σ:St} {H:Hp} {Q:VK} {wi:TI} {g:TG} {tc:TT} {te:TE} {k:Nat} {fr:List Nat} (q:wi σ H fun J H1=>∀ D,H1 D = none->CP J D g tc te k fr σ (upd H1 D (.lst [])) Q):Lj wi g tc te k fr σ H Q:=q
theorem CP.list {K:PySem.W.Frag} {σ:St} {H:Hp} {Q:VK} {D a:Addr} {g:TG} {tc:TT} {te:TE} {k:Nat} {fr:List Nat} (xs:List V) (Pv:Nat->Hp->Prop)
  (h0:Pv 0 H) (hl:∀ i H',i <= xs.length->Pv i H'->SqL K H' a xs)
  (hs:∀ i x H' (N:Hp->Prop),xs[i]? = some x->Pv i H'->(∀ H'',Pv (i + 1) H''->N H'')->g x (compσ k fr σ) H' fun σ2 H2=>σ2.drop k = (compσ k fr σ).drop k/\tc σ2 H2 fun b H3 =>
   if b = true then te σ2 H3 (fun y H4=>∃ ys,H4 D = some (.lst ys)/\ys.length < sizeLine/\N (upd H4 D (.lst (ys ++ [y])))) else N H3)
  (hd:∀ H',Pv xs.length H'->Q (.ref D) H'):CP (Itl K a) D g tc te k fr σ H Q:=Aan Pv h0 hl hs hd
theorem CP.range {σ:St} {H:Hp} {Q:VK} {D:Addr} {lo:Int} {n:Nat} {g:TG} {tc:TT} {te:TE} {k:Nat} {fr:List Nat} (Pv:Nat->Hp->Prop) (h0:Pv 0 H)
  (hs:∀ i H' (N:Hp->Prop),i < n->Pv i H'->(∀ H'',Pv (i + 1) H''->N H'')->g (.int (lo + i)) (compσ k fr σ) H' fun σ2 H2=>σ2.drop k = (compσ k fr σ).drop k/\tc σ2 H2 fun b H3 =>
   if b = true then te σ2 H3 (fun y H4=>∃ ys,H4 D = some (.lst ys)/\ys.length < sizeLine/\N (upd H4 D (.lst (ys ++ [y])))) else N H3)
  (hd:∀ H',Pv n H'->Q (.ref D) H'):CP (Itr lo n) D g tc te k fr σ H Q:=Zf Pv h0 hs hd
end L2
set_option Elab.async false
set_option linter.all false
set_option maxRecDepth 100000
set_option maxHeartbeats 4000000
namespace L2
open PySem PySem.Spec PyProof.Rows
theorem Qf:∀ {ns:List Int} {us:List Value},Vals (ns.map V.int) us->IntsAre us ns
 | [],_,.nil=>.nil
 | n :: ns,_,.cons r t=>by
  obtain ⟨k,rfl⟩:=(show ∃ t,_ = Value.int n t from r)
  exact .cons n k (Qf t)
section
variable {X:Cx}
end
section
variable {X:Cx}
end
end L2
set_option Elab.async false
set_option linter.all false
set_option maxRecDepth 100000
set_option maxHeartbeats 4000000
namespace L2
open PySem PySem.Spec PyProof.Rows
section
variable {M:Model} {A:Around} {E:Value->Shared->Prop} {s:Shared} {base:Heap} {env:Env} {outer:List Env} {L e:Addr} {Q:Unit->Shared->Prop}
end
section
variable {P:Program} {w:World} {H:Hp} {h h':Heap} {a:Addr} {o:HO}
end
section
variable {P:Program} {w:World} {K:PySem.W.Frag} {mg:Str->Option Value} {base:Heap} {N:List Str} {qual:Str} {scope:Scope} {f:Addr} {cd:Value} {A:Around} {outer:List Env} {s0:Shared} {H0:Hp} {E:XK}
end
section
variable {P:Program} {w:World} {K:PySem.W.Frag} {mg:Str->Option Value} {base:Heap} {N:List Str} {qual:Str} {scope:Scope} {f:Addr} {cd:Value} {A:Around} {outer:List Env} {s0:Shared} {H0:Hp} {E:XK}
end
section
variable {X:Cx} {pins:List (Addr × Obj)} {σ:St} {H:Hp} {s:Shared}
end
def Aio (x C:Addr):Heap->Prop:=fun h=>∃ o vs,h.get? x = some o/\o.cls = .ref C/\o.dict = none/\o.data = .fields vs
section
variable {X:Cx} {pins:List (Addr × Obj)} {σ:St} {H:Hp} {s:Shared}
end
section
variable {X:Cx} {k:Nat} {f C:Addr} {fd:FuncData} {ps:List Str} {sp:Sp} {dvs:List V} {ds:List Value} {x m:Str} {p pos apos:Pos} {e o:Expr} {es:List Expr} {ta:TE} {t:TA}
end
section
variable {σ:St} {H:Hp} {Q:VK} {D:Ends} {Ex:Addr->Hp->Prop}
end
end L2
set_option Elab.async false
set_option linter.all false
set_option maxRecDepth 100000
set_option maxHeartbeats 4000000
namespace L2
open PySem PySem.Spec PyProof.Rows
section
variable {X:Cx} {pos:Pos} {a b:Expr} {op op' op2:CmpOp} {ops:List CmpOp} {es:List Expr} {e2:Expr} {ta tb:TE} {r:R2} {u:V->TE}
end
end L2
set_option Elab.async false
set_option linter.all false
set_option maxRecDepth 100000
set_option maxHeartbeats 4000000
namespace L2
open PySem PySem.Spec PyProof.Rows
section
variable {a:Array Keyed}
end
section
variable {prog:Program} {w:World} {A:Around} {E:Value->Shared->Prop} {s:Shared} {z:Array Keyed}
end
end L2
namespace L2
open PySem PySem.Spec PyProof.Rows
section
variable {X:Cx} {pins:List (Addr × Obj)} {σ:St} {H:Hp} {s:Shared}
end
section
variable {X:Cx} {CX:CXT} {pins:List (Addr × Obj)} {σ:St} {H:Hp} {s:Shared} {k:Nat} {f:Addr} {fd:FuncData} {ps:List Str} {sp:Sp}
end
end L2
namespace L2
open PySem PySem.Spec PyProof.Rows
section
variable {X:Cx} {CX:CXT} {pins:List (Addr × Obj)} {σ:St} {H:Hp} {s:Shared} {k:Nat} {f C a dx:Addr} {fd:FuncData} {ps:List Str} {sp:Sp} {fs:List (Str × V)} {m x:Str} {A:Around} {E:Value->Shared->Prop} {o e ke:Expr} {to te:TE} {t tk:TA} {pos p kpos:Pos}
end
end L2
namespace L2
open PySem PySem.Spec PyProof.Rows
end L2
namespace L2
open PySem PySem.Spec PyProof.Rows
section
variable {X:Cx} {elts:List Expr} {x1:Nat} {tp p pos:Pos}
end
end L2
namespace L2
open PySem PySem.Spec PyProof.Rows
theorem Ago {prog:Program} {w:World} {A:Around} {R:Result->Shared->Prop} {it:Addr} {fp wr:List Addr} {n:Nat} {P:Nat->Value->Prop} {St:Nat->Heap->Prop} {kw:List (Str × Value)} (W:Walks prog w A.in1 it fp wr n P St) (bt:Nat->Nat->Bool) (cmp:CmpOf prog w A.in1 .Gt P bt) (B:Addr) (nB:B ∉ fp):∀ (k j:Nat) (s:Shared) (x:Value) (c:Nat),n - (j + 1) = k->j + 1 <= n->St (j + 1) s.heap->P (argBest bt j) x ->
  s.heap.get? B = some { cls:=.type "list",dict:=none,data:=.seq #[x,x] c,slots:=#[] }->(∀ v h' tk,P (argBest bt (n - 1)) v->(∀ b o,b ∉ wr->b ≠ B->s.heap.get? b = some o->h'.get? b = some o)->R (.ok (.ret v)) { s with heap:=h',toks:=tk })->codeAny (model prog w) A (.builtin "max.loop" ⟨[.ref it,.none,.ref B],kw⟩) R s:=by
 have wB:B ∉ wr:=fun z=>nB (W.sub _ z)
 have nm:(toString "max" ++ toString ".loop" : String) = "max.loop":=by decide
 intro k; induction k with
 | zero =>
  intro j s x c e1 e2 st px eB fin
  have en:j + 1 = n:=by omega
  refine codeAny_builtin PySem.F.entry_max_loop ?_; rw [Around.under_plainId PySem.F.plain_max_loop _]
  show wpAny _ A.in1 (seqItems? (.ref B) >>= _) _ _ s; refine wpAny_bind (wpAny_seqItems eB rfl ?_)
  show wpAny _ A.in1 (tryCatch (pyNext (.ref it)) _ >>= _) _ _ s; refine wpAny_bind (wpAny_tryCatch (W.done s _ _ (en ▸ st) fun h' tk kp=>?_))
  have eB':=kp B _ wB eB
  cases kw <;> (show wpAny _ A.in1 (updateSeq B (fun _=>#[]) >>= _) _ _ _; exact wpAny_bind (wpAny_updateSeq eB' rfl (wpAny_bind (wpAny_letGo (wpAny_pure (fin x _ tk (by rw [<- en]; exact px) fun b o n1 n2 q=>(Heap.get?_update_other _ _ (Ne.symm n2)).trans (kp b o n1 q)))))))
 | succ k ih =>
  intro j s x c e1 e2 st px eB fin
  refine codeAny_builtin PySem.F.entry_max_loop ?_; rw [Around.under_plainId PySem.F.plain_max_loop _]
  show wpAny _ A.in1 (seqItems? (.ref B) >>= _) _ _ s; refine wpAny_bind (wpAny_seqItems eB rfl ?_)
  show wpAny _ A.in1 (tryCatch (pyNext (.ref it)) _ >>= _) _ _ s; refine wpAny_bind (wpAny_tryCatch (W.item (j + 1) s _ _ (by omega) st fun v h' tk pv st' kp=>?_))
  have eB':=kp B _ wB eB
  show wpAny _ A.in1 (tryCatch (holding [v,v] (richCompare .Gt v x >>= _)) _ >>= _) _ _ _; refine wpAny_bind (wpAny_tryCatch (wpAny_holding (wpAny_bind (cmp (j + 1) (argBest bt j) v x _ _ _ pv px (wpAny_bind (wpAny_holding (wpAny_truthy_bool (wpAny_bind (wpAny_letGo (wpAny_pure ?_))))))))))
  cases g:bt (j + 1) (argBest bt j) with
  | true =>
   simp only [if_true]; refine wpAny_bind (wpAny_updateSeq eB' rfl (wpAny_bind (wpAny_letGo ?_))); rw [nm]
   exact wpAny_pure ⟨plainId_quiet PySem.F.plain_max_loop _,ih (j + 1) _ v _ (by omega) (by omega) (W.frame _ _ _ st' fun b hb o q=>(Heap.get?_update_other _ _ (fun z:B = b=>nB (by rw [z]; exact hb))).trans q) (by simp only [argBest,g,if_true]; exact pv) (Heap.get?_update_self _ eB' rfl) fun v' h'' tk' pv' kp'=>fin v' h'' tk' pv' fun b o n1 n2 q=>kp' b o n1 n2 ((Heap.get?_update_other _ _ (Ne.symm n2)).trans (kp b o n1 q))⟩
  | false =>
   simp only [Bool.false_eq_true,if_false]; refine wpAny_bind (wpAny_letGo ?_); rw [nm]
   exact wpAny_pure ⟨plainId_quiet PySem.F.plain_max_loop _,ih (j + 1) _ x c (by omega) (by omega) st' (by simp only [argBest,g,Bool.false_eq_true,if_false]; exact px) eB' fun v' h'' tk' pv' kp'=>fin v' h'' tk' pv' fun b o n1 n2 q=>kp' b o n1 n2 (kp b o n1 q)⟩
def Aed (K:PySem.W.Frag) (xs ks:List V) (H:Hp) (Q:VK):Prop:=∃ (p:Addr) (ns:List Int) (d:Int),xs = [.ref p]/\ks = [.int d]/\SqL K H p (ns.map V.int)/\(ns = []->Q (.int d) H)/\∀ m ∈ ns,(∀ x ∈ ns,x <= m)->Q (.int m) H
theorem Aa9 {X:Cx} {pins:List (Addr × Obj)} {σ:St} {H:Hp} {s:Shared} {xs ks:List V} {us ws:List Value} {Q:VK} (hh:X.A.handled = none) (I:Inv X pins σ H s) (rx:Vals xs us) (rk:Vals ks ws) (h:Aed X.K xs ks H Q) :
  wpAny (model X.prog X.w) X.A (call (.builtin "max") us ([Str.ofString "default"].zip ws)) (EP X pins σ Q) X.xe s:=by
 obtain ⟨p,ns,d,rfl,rfl,sq,q0,q1⟩:=h
 obtain ⟨u,rfl,ru⟩:=Ny rx
 obtain ⟨w',rfl,rw'⟩:=Ny rk
 cases ru
 obtain ⟨t,rfl⟩:=(show ∃ t,w' = Value.int d t from rw')
 obtain ⟨its,r',pl,hz⟩:=I.list sq
 have hv:IntsAre its ns:=Qf r'
 have l2:=hv.length
 have nm:(toString "max" ++ toString ".loop" : String) = "max.loop":=by decide
 refine PyProof.Rows.kmk_tree PySem.F.kind_max PySem.F.plain_max PySem.F.entry_max (by unfold argsOk; kernel_rfl) ?_
 show wpAny _ X.A.in1 (Builtin.Builtins.bindParams "max" ["key","default"] 0 ⟨[],[(Str.ofString "default",.int d t)]⟩ >>= _) _ _ s; refine wpAny_bind (wpAny_of_eq (show Builtin.Builtins.bindParams "max" ["key","default"] 0 ⟨[],[(Str.ofString "default",.int d t)]⟩ = pure [none,some (.int d t)] from rfl) ?_)
 refine wpAny_bind (wpAny_pure (wpAny_bind (wpAny_pyIter_list pl.isList (wpAny_bind (wpAny_newList ?_ (Nat.zero_le _)))))); rw [nm]
 have hp:p < s.heap.objs.size:=by obtain ⟨o,ho,_⟩:=pl.isList; exact Heap.lt_size ho
 have W:=Walks.list (prog:=X.prog) (w:=X.w) (A:=X.A.in1) hh s.heap.objs.size p (Nat.ne_of_lt hp) its.toArray
 generalize e1:s.heap.push { cls:=.type "list_iterator",data:=.fields #[.ref p,.int 0 0] } = h1
 have sz1:h1.objs.size = s.heap.objs.size + 1:=by rw [<- e1,Heap.size_push]
 have old1:∀ b o,s.heap.get? b = some o->h1.get? b = some o:=fun b o q=>by rw [<- e1]; exact Heap.get?_push_of_some _ q
 have li:h1.IsListIter s.heap.objs.size p 0:=by rw [<- e1]; exact ⟨_,Heap.get?_push_size _ rfl,rfl,rfl⟩
 have st0:(h1.push { cls:=.type "list",data:=.seq ([]:List Value).toArray }).IsListIter s.heap.objs.size p 0/\(h1.push { cls:=.type "list",data:=.seq ([]:List Value).toArray }).IsList p its.toArray:=⟨li.at fun o q=>Heap.get?_push_of_some _ q,pl.isList.at fun o q=>Heap.get?_push_of_some _ (old1 _ _ q)⟩
 have eB:(h1.push { cls:=.type "list",data:=.seq ([]:List Value).toArray }).get? h1.objs.size = some { cls:=.type "list",dict:=none,data:=.seq #[] 0,slots:=#[] }:=Heap.get?_push_size _ rfl
 have nB:h1.objs.size ∉ [s.heap.objs.size,p]:=fun z=>by
  rw [sz1] at z
  rcases List.mem_cons.mp z with e | e
  ·exact Nat.succ_ne_self _ e
  ·exact absurd (List.mem_singleton.mp e) (Nat.ne_of_gt (Nat.lt_succ_of_lt hp))
 have old:∀ (h':Heap) (tk:Nat),(∀ b o,b ∉ [s.heap.objs.size]->b ≠ h1.objs.size->(h1.push { cls:=.type "list",data:=.seq ([]:List Value).toArray }).get? b = some o->h'.get? b = some o)->Inv X pins σ H { s with heap:=h',toks:=tk }:=fun h' tk kp=>I.kept fun b o q=>kp b o (fun z=>absurd (List.mem_singleton.mp z) (Nat.ne_of_lt (Heap.lt_size q))) (by rw [sz1]; exact Nat.ne_of_lt (Nat.lt_succ_of_lt (Heap.lt_size q))) (Heap.get?_push_of_some _ (old1 b o q))
 refine wpAny_pure ⟨plainId_quiet PySem.F.plain_max_loop _,?_⟩
 have one:codeAny (model X.prog X.w) X.A (.builtin "max.loop" ⟨[.ref s.heap.objs.size,.none,.ref h1.objs.size],[(Str.ofString "default",.int d t)]⟩) (fun r s'=>match r with | .ok (.ret v)=>EP X pins σ Q v s' | .ok _=>False | .error e=>X.xe e s') { s with heap:=h1.push { cls:=.type "list",data:=.seq ([]:List Value).toArray } }:=by
  refine codeAny_builtin PySem.F.entry_max_loop ?_; rw [Around.under_plainId PySem.F.plain_max_loop _]
  show wpAny _ X.A.in1 (seqItems? (.ref h1.objs.size) >>= _) _ _ _; refine wpAny_bind (wpAny_seqItems eB rfl ?_)
  show wpAny _ X.A.in1 (tryCatch (pyNext (.ref s.heap.objs.size)) _ >>= _) _ _ _
  by_cases em:its = []
  ·refine wpAny_bind (wpAny_tryCatch (W.done _ _ _ (by rw [em] at st0 ⊢; exact st0) fun h' tk kp=>?_))
   refine wpAny_bind (wpAny_rule (wpAny_pure ⟨.int d,H,old h' tk fun b o n1 n2 q=>kp b o n1 q,⟨t,rfl⟩,q0 ?_⟩))
   rw [em] at l2; exact List.eq_nil_of_length_eq_zero l2.symm
  ·have n0:0 < its.length:=List.length_pos_iff.mpr em
   have key:∀ i v,its.toArray[i]? = some v->∃ t',v = Value.int (ns.getD i 0) t':=fun i v e=>by
    have hi:i < its.length:=by have:=(Array.getElem?_eq_some_iff.mp e).1; simpa using this
    have e2:ns[i]? = some (ns.getD i 0):=by rw [List.getElem?_eq_getElem (by omega)]; simp [show i < ns.length by omega]
    obtain ⟨t',ht⟩:=hv.get i _ e2
    have e3:its[i]? = some v:=by simpa using e
    rw [ht] at e3; cases e3; exact ⟨t',rfl⟩
   have cmp:CmpOf X.prog X.w X.A.in1 .Gt (fun i v=>its.toArray[i]? = some v) (fun i j=>decide (ns.getD i 0 > ns.getD j 0)):=fun i j vi vj s' Q' E' hi hj hq=>by
    obtain ⟨t1,rfl⟩:=key i vi hi
    obtain ⟨t2,rfl⟩:=key j vj hj
    exact (PyProof.Rows.gt_int hq:wpAny (model X.prog X.w) X.A.in1 (compareOp .Gt _ _) _ _ _)
   have best:∀ k,argBest (fun i j=>decide (ns.getD i 0 > ns.getD j 0)) k <= k/\∀ i,i <= k->ns.getD i 0 <= ns.getD (argBest (fun i j=>decide (ns.getD i 0 > ns.getD j 0)) k) 0:=by
    intro k
    induction k with
    | zero=>exact ⟨Nat.le_refl _,fun i hi=>by rw [show i = 0 by omega]; exact Int.le_refl _⟩
    | succ k ih =>
     unfold argBest
     by_cases c:ns.getD (k + 1) 0 > ns.getD (argBest (fun i j=>decide (ns.getD i 0 > ns.getD j 0)) k) 0
     ·rw [if_pos (decide_eq_true c)]
      refine ⟨Nat.le_refl _,fun i hi=>?_⟩
      by_cases z:i = k + 1
      ·rw [z]; exact Int.le_refl _
      ·have:=ih.2 i (by omega); omega
     ·rw [if_neg (fun z=>c (of_decide_eq_true z))]
      refine ⟨by have:=ih.1; omega,fun i hi=>?_⟩
      by_cases z:i = k + 1
      ·rw [z]; omega
      ·exact ih.2 i (by omega)
   refine wpAny_bind (wpAny_tryCatch (W.item 0 _ _ _ (by simpa using n0) st0 fun v h' tk pv st' kp=>?_))
   have eB':=kp h1.objs.size _ (by rw [sz1]; simp) eB
   show wpAny _ X.A.in1 (updateSeq h1.objs.size (fun _=>#[v,v]) >>= _) _ _ _
   refine wpAny_bind (wpAny_updateSeq eB' rfl ?_); rw [nm]
   refine wpAny_pure ⟨plainId_quiet PySem.F.plain_max_loop _,Ago W _ cmp h1.objs.size nB _ 0 _ v _ rfl (by show 0 + 1 <= its.toArray.size; rw [List.size_toArray]; omega) (W.frame _ _ _ st' fun b hb o q=>(Heap.get?_update_other _ _ (fun z:h1.objs.size = b=>nB (by rw [z]; exact hb))).trans q) pv (Heap.get?_update_self _ eB' rfl) fun v' h'' tk' pv' kp'=>?_⟩
   obtain ⟨t',rfl⟩:=key _ v' pv'
   have bk:=best (its.toArray.size - 1)
   have zs:its.toArray.size = ns.length:=by simp; omega
   refine ⟨.int _,H,old h'' tk' fun b o n1 n2 q=>kp' b o n1 n2 ((Heap.get?_update_other _ _ (Ne.symm n2)).trans (kp b o n1 q)),⟨t',rfl⟩,q1 _ ?_ fun x hx=>?_⟩
   ·have hlt:argBest (fun i j=>decide (ns.getD i 0 > ns.getD j 0)) (its.toArray.size - 1) < ns.length:=by have:=bk.1; omega
    exact (fun j (hj:j < ns.length)=>by rw [List.getD_eq_getElem?_getD,List.getElem?_eq_getElem hj]; exact List.getElem_mem hj:∀ j,j < ns.length->ns.getD j 0 ∈ ns) _ hlt
   ·obtain ⟨i,hi,e⟩:=List.mem_iff_getElem.mp hx
    have:=bk.2 i (by omega)
    rw [List.getD_eq_getElem?_getD (i:=i),List.getElem?_eq_getElem hi] at this
    rw [<- e]
    exact this
 exact one
end L2
namespace L2
open PySem PySem.Spec PyProof.Rows
section
variable {X:Cx} {e de:Expr} {t tk:TA} {pos p kpos:Pos}
def AdK (K:PySem.W.Frag) (t tk:TA):TE:=fun σ H Q=>t σ H fun xs H1=>tk σ H1 fun ks H2=>Aed K xs ks H2 Q
theorem AeV (hh:X.A.handled = none) (hg:Gl X "max") (hm:X.mg "max" = none) (ha:PA X [e] t) (hk:PK X [⟨some "default",de,kpos⟩] tk) (he:backTo pos (starEach [e] X.env) = (false,eval e X.env) :: backTo pos (starEach [] X.env):=by rfl) (hp:(backTo pos (starEach [e] X.env)).any (·.1) = false:=by rfl) :
  PE X (.Call (.Name "max" p) [e] [⟨some "default",de,kpos⟩] pos) (AdK X.K t tk):=by
 intro pins s σ H Q I h
 refine wpAny_Call_Name_kw (Gw I hg hm PyProof.Rows.boot_max (PyProof.Rows.callWith_kw (thn (ha pos pins s σ H _ I h) fun us s1 ⟨vs,H1,I1,r1,q1⟩=>thn (hk pos pins s1 σ H1 _ I1 q1) fun ws s2 ⟨zs,H2,I2,r2,q2⟩=>Aa9 hh I2 r1 r2 q2) he hp rfl rfl) (by decide) (by decide))
end
end L2
set_option Elab.async false
set_option linter.all false
set_option maxRecDepth 100000
set_option maxHeartbeats 4000000
namespace L2
open PySem PySem.Spec PyProof.Rows
section
variable {prog:Program} {w:World} {A:Around} {E:Value->Shared->Prop} {s:Shared} {R:Result->Shared->Prop} {I:Addr} {fp wr:List Addr} {G:Array GenState->Array GenState->Prop} {n:Nat} {P:Nat->Value->Prop} {St:Nat->Shared->Prop}
end
section
variable {X:Cx} {p p2 pos pos2:Pos} {tg:Expr}
def AfI (ta:TA):TE:=fun σ H Q=>ta σ H fun vs H1=>∃ j:Int,vs = [.int j]/\-(2 ^ 62) <= j/\j < 16000000/\∀ l H',H1 l = none->Same H1 H'->H' l = some (.lst ((List.range j.toNat).map fun (i:Nat)=>V.int (i:Int)))->Q (.ref l) H'
theorem AbM:∀ {xs:List V} {ys:List Value},xs.length = ys.length->(∀ (i:Nat) x y,xs[i]? = some x->ys[i]? = some y->RelV x y)->Vals xs ys
 | [],[],_,_=>.nil
 | x :: xs,y :: ys,l,h=>.cons (h 0 x y rfl rfl) (AbM (by simpa using l) fun i u v h1 h2=>h (i + 1) u v (by simpa using h1) (by simpa using h2))
 | [],_ :: _,l,_=>by simp at l
 | _ :: _,[],l,_=>by simp at l
theorem size_push (h:Heap) (o:Obj):(h.push o).objs.size = h.objs.size + 1:=by simp [Heap.push]
theorem Ur {pins:List (Addr × Obj)} {σ:St} {H:Hp} {s:Shared} {lo hi:Int} {t u v:Tok} {tk:Nat} {Q:VK} (hc:X.calm = true) (I:Inv X pins σ H s) (h1:-(2 ^ 62) <= lo) (h2:lo < 2 ^ 62) (h3:-(2 ^ 62) <= hi) (h4:hi < 2 ^ 62) (h5:hi - lo < 16000000)
  (q:∀ l H',H l = none->Same H H'->H' l = some (.lst ((List.range (hi - lo).toNat).map fun (k:Nat)=>V.int (lo + (k:Int))))->Q (.ref l) H') :
  wpAny (model X.prog X.w) X.A (call (.type "list") [.ref s.heap.objs.size]) (EP X pins σ Q) X.xe { s with heap:=s.heap.push { cls:=.type "range",data:=.fields #[.int lo t,.int hi u,.int 1 v] },toks:=tk }:=by
 have en:Builtin.Range.rangeSize lo hi 1 = (((hi - lo).toNat:Nat):Int):=by rw [rangeSize_one]; split <;> omega
 refine call_list_range (n:=(hi - lo).toNat) (I.ok.hd hc) (IsRange.new ..) (small_one h1 h2 h3 h4) en (by omega) fun h' tk' acc' c' hk hS hacc=>?_
 obtain ⟨k1,k2⟩:=hacc
 have hge:s.heap.objs.size <= (s.heap.push { cls:=.type "range",data:=.fields #[.int lo t,.int hi u,.int 1 v] }).objs.size:=by rw [size_push]; exact Nat.le_succ _
 refine ⟨.ref _,upd H _ (.lst ((List.range (hi - lo).toNat).map fun (k:Nat)=>V.int (lo + (k:Int)))),I.laid (s:=s) (h':=h') (fun b o e=>hk b o (Heap.get?_push_of_some _ e)) hge ⟨?_,acc'.toList,c',?_,by simpa using hS⟩,rfl,q _ _ (I.hok.fresh hge) (Same.laid (I.hok.fresh hge)) Bq⟩
 ·rw [List.length_map,List.length_range,sizeLine_eq]; omega
 ·refine AbM (by simp [k1]) fun i x y hx hy=>?_
  have hy':acc'[i]? = some y:=by simpa using hy
  obtain ⟨t',e⟩:=k2 i y hy'
  rw [List.getElem?_map] at hx
  have hi':i < (hi - lo).toNat:=by
   rw [<- k1]; exact (Array.getElem?_eq_some_iff.mp hy').1
  rw [List.getElem?_range hi'] at hx
  cases hx
  exact ⟨t',by rw [e]; simp⟩
theorem AaV {a:Expr} {ta:TA} (hc:X.calm = true) (hgl:Gl X "list") (hml:X.mg "list" = none) (hg:Gl X "range") (hm:X.mg "range" = none) (ha:PA X [a] ta) (hs:starEach [a] X.env = [(false,eval a X.env)]:=by rfl)
  (hs2:starEach [.Call (.Name "range" p) [a] [] pos] X.env = [(false,eval (.Call (.Name "range" p) [a] [] pos) X.env)]:=by rfl) :
  PE X (.Call (.Name "list" p2) [.Call (.Name "range" p) [a] [] pos] [] pos2) (AfI ta):=by
 intro pins s σ H Q I h
 refine wpAny_Call_Name_kw (Gw I hgl hml boot_list ?_)
 refine callWith_type1 ?_ hs2 rfl
 rw [hs2]
 refine Calls.spliced_cons ?_
 refine wpAny_Call_Name_kw (Gw I hg hm boot_range (callWith_type1 (thn (ha pos pins s σ H _ I h) fun us s1 ⟨vs,H1,I1,r1,q1⟩=>?_) hs rfl))
 obtain ⟨j,rfl,h1,h2,q⟩:=q1
 obtain ⟨w,rfl,t,rfl⟩:=Ny r1
 exact call_range_1 (Calls.spliced_nil (Ur hc I1 (by omega) (by omega) h1 (by omega) (by omega) (by simpa using q)))
end
end L2
set_option Elab.async false
set_option linter.all false
set_option maxRecDepth 100000
set_option maxHeartbeats 4000000
namespace L2
open PySem PySem.Spec PyProof.Rows
section
variable {X:Cx} {elts:List Expr} {x1:Nat} {tp p pos:Pos}
end
theorem Gn {X:Cx} {es':List Expr} {n:Nat} {pos:Pos} {es:List Expr} {te:TE} {t:TA} (h:PE X (.Tuple es' n pos) te) (h2:PA X es t):PA X (.Tuple es' n pos :: es) (Fy te t):=Ba h h2 rfl
theorem Vk {X:Cx} {es':List Expr} {pos:Pos} {es:List Expr} {te:TE} {t:TA} (h:PE X (.List es' pos) te) (h2:PA X es t):PA X (.List es' pos :: es) (Fy te t):=Ba h h2 rfl
theorem Bh {X:Cx} {c:Const} {n:Nat} {pos:Pos} {es:List Expr} {te:TE} {t:TA} (h:PE X (.Constant c n pos) te) (h2:PA X es t):PA X (.Constant c n pos :: es) (Fy te t):=Ba h h2 rfl
section
variable {X:Cx}
end
end L2
set_option Elab.async false
set_option linter.all false
set_option maxRecDepth 100000
set_option maxHeartbeats 4000000
namespace My
open PySem L2
def top (i:Nat):Stmt:=PySem.Challenge.pw_bothhands_k43_rows.main.body.getD i (.Pass ⟨0,0,0,0⟩)
abbrev Oa:Stmt:=top 35
theorem Aig:By ["_law_script","_law_k"] ["_law_script","_law_k"] (Bc Oa):=⟨rfl,rfl,rfl,by decide +kernel,rfl,by decide +kernel,by decide +kernel⟩
abbrev Js:Stmt:=top 36
theorem sc_qbg:By ["_law_script","_law_k","_law_low","_law_step"] ["_law_script","_law_k"] (Bc Js):=⟨rfl,rfl,rfl,by decide +kernel,rfl,by decide +kernel,by decide +kernel⟩
abbrev Jp:Stmt:=top 37
theorem sc_qbi:By ["_law_script","_law_cell","_law_ranks","_law_some","_law_k","_law_more","_law_told_here","_law_marks","_law_rank"] ["_law_script"] (Bc Jp):=⟨rfl,rfl,rfl,by decide +kernel,rfl,by decide +kernel,by decide +kernel⟩
abbrev Oc:Stmt:=top 20
theorem Ah6:By ["held","words"] ["held","words"] (Bc Oc):=⟨rfl,rfl,rfl,by decide +kernel,rfl,by decide +kernel,by decide +kernel⟩
abbrev Ni:Stmt:=top 21
theorem sc_qd:By ["rows","length","row"] ["rows","length"] (Bc Ni):=⟨rfl,rfl,rfl,by decide +kernel,rfl,by decide +kernel,by decide +kernel⟩
abbrev Np:Stmt:=top 6
theorem Ahl:By ["thing"] ["thing"] (Bc Np):=⟨rfl,rfl,rfl,by decide +kernel,rfl,by decide +kernel,by decide +kernel⟩
abbrev Jo:Stmt:=top 7
theorem AgB:By ["thing"] ["thing"] (Bc Jo):=⟨rfl,rfl,rfl,by decide +kernel,rfl,by decide +kernel,by decide +kernel⟩
abbrev Ji:Stmt:=top 25
theorem Agu:By ["kinds","sign","kind"] ["kinds","sign","kind"] (Bc Ji):=⟨rfl,rfl,rfl,by decide +kernel,rfl,by decide +kernel,by decide +kernel⟩
abbrev Oj:Stmt:=top 22
theorem AhX:By ["thing"] ["thing"] (Bc Oj):=⟨rfl,rfl,rfl,by decide +kernel,rfl,by decide +kernel,by decide +kernel⟩
abbrev Nx:Stmt:=top 23
theorem Ah3:By ["kind","thing"] ["kind","thing"] (Bc Nx):=⟨rfl,rfl,rfl,by decide +kernel,rfl,by decide +kernel,by decide +kernel⟩
abbrev Od:Stmt:=top 26
theorem sc_qo:By ["signs","mates","kinds","sign","kind","rank","first","second"] ["signs","mates"] (Bc Od):=⟨rfl,rfl,rfl,by decide +kernel,rfl,by decide +kernel,by decide +kernel⟩
abbrev Ng:Stmt:=top 27
theorem sc_qr:By ["signs","ranks","sign","kind","rank"] ["signs"] (Bc Ng):=⟨rfl,rfl,rfl,by decide +kernel,rfl,by decide +kernel,by decide +kernel⟩
abbrev Nm:Stmt:=top 28
theorem sc_qw:By ["mates","found","first","second"] ["mates"] (Bc Nm):=⟨rfl,rfl,rfl,by decide +kernel,rfl,by decide +kernel,by decide +kernel⟩
abbrev Ot:Stmt:=top 24
theorem AhW:By ["kinds","sign"] ["kinds","sign"] (Bc Ot):=⟨rfl,rfl,rfl,by decide +kernel,rfl,by decide +kernel,by decide +kernel⟩
abbrev No:Stmt:=top 29
theorem sc_ql:By ["kinds","whole","base","mark","kind"] ["kinds","whole","base","mark"] (Bc No):=⟨rfl,rfl,rfl,by decide +kernel,rfl,by decide +kernel,by decide +kernel⟩
abbrev Oe:Stmt:=top 30
theorem sc_qe:By ["pairs","whole","sign","going"] ["pairs","whole"] (Bc Oe):=⟨rfl,rfl,rfl,by decide +kernel,rfl,by decide +kernel,by decide +kernel⟩
abbrev Nk:Stmt:=top 31
theorem sc_qq:By ["kinds","joins","pairs","whole","base","mark"] ["kinds","joins"] (Bc Nk):=⟨rfl,rfl,rfl,by decide +kernel,rfl,by decide +kernel,by decide +kernel⟩
abbrev Ov:Stmt:=top 32
theorem sc_qj:By ["pairs","wholes","whole","pair"] ["pairs"] (Bc Ov):=⟨rfl,rfl,rfl,by decide +kernel,rfl,by decide +kernel,by decide +kernel⟩
abbrev On:Stmt:=Xs (top 33) 0
theorem Ahr:By ["self","signs","mates","joins"] ["self","signs","mates","joins"] (Bc On):=⟨rfl,rfl,rfl,by decide +kernel,rfl,by decide +kernel,by decide +kernel⟩
abbrev Oi:Stmt:=top 38
theorem AhJ:By ["_law_script"] ["_law_script"] (Bc Oi):=⟨rfl,rfl,rfl,by decide +kernel,rfl,by decide +kernel,by decide +kernel⟩
abbrev Nt:Stmt:=top 39
theorem sc_qx:By ["_law_script","_law_some"] ["_law_script"] (Bc Nt):=⟨rfl,rfl,rfl,by decide +kernel,rfl,by decide +kernel,by decide +kernel⟩
abbrev Je:Stmt:=top 40
theorem sc_qbf:By ["_law_script","_law_told_here","_law_signs","_law_sign_here"] ["_law_script"] (Bc Je):=⟨rfl,rfl,rfl,by decide +kernel,rfl,by decide +kernel,by decide +kernel⟩
abbrev Jf:Stmt:=top 41
theorem sc_qbh:By ["_law_script","_law_start","_law_most","_law_menus","_law_some"] ["_law_script","_law_start","_law_most"] (Bc Jf):=⟨rfl,rfl,rfl,by decide +kernel,rfl,by decide +kernel,by decide +kernel⟩
abbrev Ow:Stmt:=top 42
theorem sc_qp:By ["_law_told_here","_law_text_here","_law_found","_law_sign_here"] ["_law_told_here","_law_text_here"] (Bc Ow):=⟨rfl,rfl,rfl,by decide +kernel,rfl,by decide +kernel,by decide +kernel⟩
abbrev Nz:Stmt:=top 43
theorem sc_qy:By ["_law_told_here","_law_text_here","_law_found","_law_whole_here","_law_kind"] ["_law_told_here","_law_text_here"] (Bc Nz):=⟨rfl,rfl,rfl,by decide +kernel,rfl,by decide +kernel,by decide +kernel⟩
abbrev Ob:Stmt:=top 13
theorem Aih:By ["width"] ["width"] (Bc Ob):=⟨rfl,rfl,rfl,by decide +kernel,rfl,by decide +kernel,by decide +kernel⟩
abbrev Oh:Stmt:=Xs (top 33) 1
theorem Ah4:By ["self","sign"] ["self","sign"] (Bc Oh):=⟨rfl,rfl,rfl,by decide +kernel,rfl,by decide +kernel,by decide +kernel⟩
abbrev Ou:Stmt:=top 10
theorem sc_qb:By ["book","whole","kind"] ["book","whole"] (Bc Ou):=⟨rfl,rfl,rfl,by decide +kernel,rfl,by decide +kernel,by decide +kernel⟩
abbrev Jr:Stmt:=top 9
theorem sc_qbb:By ["book","text","wholes","sign"] ["book","text"] (Bc Jr):=⟨rfl,rfl,rfl,by decide +kernel,rfl,by decide +kernel,by decide +kernel⟩
abbrev Jq:Stmt:=top 11
theorem AgM:By ["book","text"] ["book","text"] (Bc Jq):=⟨rfl,rfl,rfl,by decide +kernel,rfl,by decide +kernel,by decide +kernel⟩
abbrev Jg:Stmt:=top 14
theorem sc_qbl:By ["kinds","start","width","blanks"] ["kinds","start","width"] (Bc Jg):=⟨rfl,rfl,rfl,by decide +kernel,rfl,by decide +kernel,by decide +kernel⟩
abbrev Jj:Stmt:=top 15
theorem sc_qbd:By ["book","text","width","kinds","rows","start"] ["book","text","width"] (Bc Jj):=⟨rfl,rfl,rfl,by decide +kernel,rfl,by decide +kernel,by decide +kernel⟩
abbrev Jt:Stmt:=top 44
theorem Age:By ["_law_found"] ["_law_found"] (Bc Jt):=⟨rfl,rfl,rfl,by decide +kernel,rfl,by decide +kernel,by decide +kernel⟩
abbrev Jl:Stmt:=top 45
theorem sc_qbk:By ["_law_kinds_here","_law_start","_law_width","_law_blanks"] ["_law_kinds_here","_law_start","_law_width"] (Bc Jl):=⟨rfl,rfl,rfl,by decide +kernel,rfl,by decide +kernel,by decide +kernel⟩
abbrev Gb:Stmt:=top 46
theorem sc_qbn:By ["_law_script","_law_book_here","_law_text_here","_law_kinds_here","_law_cell","_law_width","_law_handed","_law_found","_law_start","_law_row","_law_kept"] ["_law_script"] (Bc Gb):=⟨rfl,rfl,rfl,by decide +kernel,rfl,by decide +kernel,by decide +kernel⟩
structure Adr where
 f_qi:Addr
 d_qi:FuncData
 f_qbg:Addr
 d_qbg:FuncData
 f_qbi:Addr
 d_qbi:FuncData
 f_qc:Addr
 d_qc:FuncData
 f_qd:Addr
 d_qd:FuncData
 f_qa:Addr
 d_qa:FuncData
 f_qbj:Addr
 d_qbj:FuncData
 f_qbc:Addr
 d_qbc:FuncData
 f_qf:Addr
 d_qf:FuncData
 f_qm:Addr
 d_qm:FuncData
 f_qo:Addr
 d_qo:FuncData
 f_qr:Addr
 d_qr:FuncData
 f_qw:Addr
 d_qw:FuncData
 f_qn:Addr
 d_qn:FuncData
 f_ql:Addr
 d_ql:FuncData
 f_qe:Addr
 d_qe:FuncData
 f_qq:Addr
 d_qq:FuncData
 f_qj:Addr
 d_qj:FuncData
 f_qs:Addr
 d_qs:FuncData
 f_qz:Addr
 d_qz:FuncData
 f_qx:Addr
 d_qx:FuncData
 f_qbf:Addr
 d_qbf:FuncData
 f_qbh:Addr
 d_qbh:FuncData
 f_qp:Addr
 d_qp:FuncData
 f_qy:Addr
 d_qy:FuncData
 f_qh:Addr
 d_qh:FuncData
 f_qt:Addr
 d_qt:FuncData
 f_qb:Addr
 d_qb:FuncData
 f_qbb:Addr
 d_qbb:FuncData
 f_qbe:Addr
 d_qbe:FuncData
 f_qbl:Addr
 d_qbl:FuncData
 f_qbd:Addr
 d_qbd:FuncData
 f_qba:Addr
 d_qba:FuncData
 f_qbk:Addr
 d_qbk:FuncData
 f_qbn:Addr
 d_qbn:FuncData
 C_Book:Addr
 a_JOINED_KINDS:Addr
 a_TOLD_KINDS:Addr
structure Txt (K:PySem.W.Frag) (mg:Str->Option Value) (t:Adr):Prop where
 F_qi:Fun K "_law_cell_at" "_law_cell_at" Oa t.f_qi t.d_qi
 m_qi:mg "_law_cell_at" = some (.ref t.f_qi)
 F_qbg:Fun K "_law_sign" "_law_sign" Js t.f_qbg t.d_qbg
 m_qbg:mg "_law_sign" = some (.ref t.f_qbg)
 F_qbi:Fun K "_law_told" "_law_told" Jp t.f_qbi t.d_qbi
 m_qbi:mg "_law_told" = some (.ref t.f_qbi)
 F_qc:Fun K "refuse_unless" "refuse_unless" Oc t.f_qc t.d_qc
 m_qc:mg "refuse_unless" = some (.ref t.f_qc)
 F_qd:Fun K "check_tuples" "check_tuples" Ni t.f_qd t.d_qd
 m_qd:mg "check_tuples" = some (.ref t.f_qd)
 F_qa:Fun K "is_whole_number" "is_whole_number" Np t.f_qa t.d_qa
 m_qa:mg "is_whole_number" = some (.ref t.f_qa)
 F_qbj:Fun K "is_sign" "is_sign" Jo t.f_qbj t.d_qbj
 m_qbj:mg "is_sign" = some (.ref t.f_qbj)
 F_qbc:Fun K "add_kind" "add_kind" Ji t.f_qbc t.d_qbc
 m_qbc:mg "add_kind" = some (.ref t.f_qbc)
 F_qf:Fun K "is_told_kind" "is_told_kind" Oj t.f_qf t.d_qf
 m_qf:mg "is_told_kind" = some (.ref t.f_qf)
 F_qm:Fun K "is_rank_of" "is_rank_of" Nx t.f_qm t.d_qm
 m_qm:mg "is_rank_of" = some (.ref t.f_qm)
 F_qo:Fun K "kinds_told" "kinds_told" Od t.f_qo t.d_qo
 m_qo:mg "kinds_told" = some (.ref t.f_qo)
 F_qr:Fun K "ranks_told" "ranks_told" Ng t.f_qr t.d_qr
 m_qr:mg "ranks_told" = some (.ref t.f_qr)
 F_qw:Fun K "both_ways" "both_ways" Nm t.f_qw t.d_qw
 m_qw:mg "both_ways" = some (.ref t.f_qw)
 F_qn:Fun K "kind_among" "kind_among" Ot t.f_qn t.d_qn
 m_qn:mg "kind_among" = some (.ref t.f_qn)
 F_ql:Fun K "check_join" "check_join" No t.f_ql t.d_ql
 m_ql:mg "check_join" = some (.ref t.f_ql)
 F_qe:Fun K "ends_in_time" "ends_in_time" Oe t.f_qe t.d_qe
 m_qe:mg "ends_in_time" = some (.ref t.f_qe)
 F_qq:Fun K "pairs_told" "pairs_told" Nk t.f_qq t.d_qq
 m_qq:mg "pairs_told" = some (.ref t.f_qq)
 F_qj:Fun K "wholes_told" "wholes_told" Ov t.f_qj t.d_qj
 m_qj:mg "wholes_told" = some (.ref t.f_qj)
 F_qs:Fun K "__init__" "Book.__init__" On t.f_qs t.d_qs
 F_qz:Fun K "_law_mates" "_law_mates" Oi t.f_qz t.d_qz
 m_qz:mg "_law_mates" = some (.ref t.f_qz)
 F_qx:Fun K "_law_joins" "_law_joins" Nt t.f_qx t.d_qx
 m_qx:mg "_law_joins" = some (.ref t.f_qx)
 F_qbf:Fun K "_law_book" "_law_book" Je t.f_qbf t.d_qbf
 m_qbf:mg "_law_book" = some (.ref t.f_qbf)
 F_qbh:Fun K "_law_text" "_law_text" Jf t.f_qbh t.d_qbh
 m_qbh:mg "_law_text" = some (.ref t.f_qbh)
 F_qp:Fun K "_law_parted" "_law_parted" Ow t.f_qp t.d_qp
 m_qp:mg "_law_parted" = some (.ref t.f_qp)
 F_qy:Fun K "_law_kinds" "_law_kinds" Nz t.f_qy t.d_qy
 m_qy:mg "_law_kinds" = some (.ref t.f_qy)
 F_qh:Fun K "check_width" "check_width" Ob t.f_qh t.d_qh
 m_qh:mg "check_width" = some (.ref t.f_qh)
 F_qt:Fun K "kind" "Book.kind" Oh t.f_qt t.d_qt
 M_qt:Ab7 K t.C_Book "kind" t.f_qt
 F_qb:Fun K "kind_of_whole" "kind_of_whole" Ou t.f_qb t.d_qb
 m_qb:mg "kind_of_whole" = some (.ref t.f_qb)
 F_qbb:Fun K "wholes_of" "wholes_of" Jr t.f_qbb t.d_qbb
 m_qbb:mg "wholes_of" = some (.ref t.f_qbb)
 F_qbe:Fun K "kinds_of" "kinds_of" Jq t.f_qbe t.d_qbe
 m_qbe:mg "kinds_of" = some (.ref t.f_qbe)
 F_qbl:Fun K "row_end" "row_end" Jg t.f_qbl t.d_qbl
 m_qbl:mg "row_end" = some (.ref t.f_qbl)
 F_qbd:Fun K "cut_rows" "cut_rows" Jj t.f_qbd t.d_qbd
 m_qbd:mg "cut_rows" = some (.ref t.f_qbd)
 F_qba:Fun K "_law_whole" "_law_whole" Jt t.f_qba t.d_qba
 m_qba:mg "_law_whole" = some (.ref t.f_qba)
 F_qbk:Fun K "_law_end" "_law_end" Jl t.f_qbk t.d_qbk
 m_qbk:mg "_law_end" = some (.ref t.f_qbk)
 F_qbn:Fun K "law" "law" Gb t.f_qbn t.d_qbn
 m_qbn:mg "law" = some (.ref t.f_qbn)
 m_Book:mg "Book" = some (.ref t.C_Book)
 cl_Book:Cls K t.C_Book
 K_Book:Mk K t.C_Book t.f_qs
 n_Book_kinds:NoAttr K t.C_Book "kinds"
 n_Book_ranks:NoAttr K t.C_Book "ranks"
 n_Book_mates:NoAttr K t.C_Book "mates"
 n_Book_pairs:NoAttr K t.C_Book "pairs"
 n_Book_wholes:NoAttr K t.C_Book "wholes"
 z_bool:mg "bool" = none
 z_int:mg "int" = none
 z_isinstance:mg "isinstance" = none
 z_len:mg "len" = none
 z_list:mg "list" = none
 z_max:mg "max" = none
 z_range:mg "range" = none
 z_str:mg "str" = none
 z_tuple:mg "tuple" = none
 g_JOINED_KINDS:mg "JOINED_KINDS" = some (.ref t.a_JOINED_KINDS)
 q_JOINED_KINDS:∀ H,SqT K H t.a_JOINED_KINDS [.str "fore",.str "back",.str "num",.str "blank",.str "plain"]
 g_MOST_GOINGS:∃ u,mg "MOST_GOINGS" = some u/\RelV (.int 7) u
 g_TOLD_KINDS:mg "TOLD_KINDS" = some (.ref t.a_TOLD_KINDS)
 q_TOLD_KINDS:∀ H,SqT K H t.a_TOLD_KINDS [.str "fore",.str "back",.str "num",.str "blank",.str "mark",.str "forein",.str "backin",.str "out"]
abbrev Sg:=Int × Str × Int
def toldK:List Str:=["fore","back","num","blank","mark","forein","backin","out"]
def Sv (k:Str) (r:Int):Prop:=(k = "mark"/\1 <= r)\/(¬ k = "mark"/\r = 0)
def TripAt (H:Hp) (x:V) (s:Sg):Prop:=∃ p,x = .ref p/\H p = some (.tup [.int s.1,.str s.2.1,.int s.2.2])
def PairAt (H:Hp) (x:V) (m:Int × Int):Prop:=∃ p,x = .ref p/\H p = some (.tup [.int m.1,.int m.2])
def LAt {β α:Type} (R:Hp->β->α->Prop) (H:Hp) (xs:List β) (ys:List α):Prop:=xs.length = ys.length/\∀ (i:Nat) (x:β) (y:α),xs[i]? = some x->ys[i]? = some y->R H x y
theorem LAt.get {β α:Type} {R:Hp->β->α->Prop} {H:Hp} {xs:List β} {ys:List α} (h:LAt R H xs ys) {i:Nat} {x:β} (e:xs[i]? = some x):∃ y,ys[i]? = some y/\R H x y:=by
 have hi:i < xs.length:=(List.getElem?_eq_some_iff.mp e).1
 have hy:i < ys.length:=by rw [<- h.1]; exact hi
 exact ⟨ys[i],List.getElem?_eq_getElem hy,h.2 i x _ e (List.getElem?_eq_getElem hy)⟩
theorem LAt.mono {β α:Type} {R R':Hp->β->α->Prop} {H H':Hp} {xs:List β} {ys:List α} (h:LAt R H xs ys) (m:∀ x y,R H x y->R' H' x y):LAt R' H' xs ys:=⟨h.1,fun i x y e1 e2=>m x y (h.2 i x y e1 e2)⟩
theorem LAt.snoc {β α:Type} {R:Hp->β->α->Prop} {H:Hp} {xs:List β} {ys:List α} {x:β} {y:α} (h:LAt R H xs ys) (r:R H x y):LAt R H (xs ++ [x]) (ys ++ [y]):=by
 refine ⟨by simp [h.1],fun i u v e1 e2=>?_⟩
 by_cases hi:i < xs.length
 ·rw [List.getElem?_append_left hi] at e1
  rw [List.getElem?_append_left (by rw [<- h.1]; exact hi)] at e2
  exact h.2 i u v e1 e2
 ·rw [List.getElem?_append_right (by omega)] at e1
  rw [List.getElem?_append_right (by rw [<- h.1]; omega),<- h.1] at e2
  have hz:i - xs.length = 0:=by
   have:=(List.getElem?_eq_some_iff.mp e1).1
   simp at this; omega
  rw [hz] at e1 e2
  simp at e1 e2
  rw [<- e1,<- e2]; exact r
theorem LAt.nil {β α:Type} {R:Hp->β->α->Prop} {H:Hp}:LAt R H ([]:List β) ([]:List α):=⟨rfl,fun i x y e=>by simp at e⟩
structure Uu (s:Sg):Prop where
 nn:0 <= s.1
 kd:s.2.1 ∈ toldK
 rk:Sv s.2.1 s.2.2
def kK (signs:List Sg):List (Key × V):=signs.map fun s=>(.inl s.1,.str s.2.1)
def kR (signs:List Sg):List (Key × V):=signs.map fun s=>(.inl s.1,.int s.2.2)
def kM:List (Int × Int)->List (Key × V)
 | []=>[]
 | m :: r=>(.inl m.1,.str "open") :: (.inl m.2,.str "shut") :: kM r
def kB:List (Int × Int)->List (Key × V)
 | []=>[]
 | m :: r=>(.inl m.1,.int m.2) :: (.inl m.2,.int m.1) :: kB r
def Jb:List (Int × Int)->List Int
 | []=>[]
 | m :: r=>m.1 :: m.2 :: Jb r
theorem Uk (xs ys:List (Int × Int)):kM (xs ++ ys) = kM xs ++ kM ys:=by
 induction xs with
 | nil=>rfl
 | cons x r ih=>simp [kM,ih]
theorem Tu (xs ys:List (Int × Int)):kB (xs ++ ys) = kB xs ++ kB ys:=by
 induction xs with
 | nil=>rfl
 | cons x r ih=>simp [kB,ih]
theorem Sy (xs:List (Int × Int)):(kM xs).map (·.1) = (Jb xs).map Sum.inl:=by
 induction xs with
 | nil=>rfl
 | cons x r ih=>simp [kM,Jb,ih]
theorem Aes (xs:List (Int × Int)):(kB xs).map (·.1) = (Jb xs).map Sum.inl:=by
 induction xs with
 | nil=>rfl
 | cons x r ih=>simp [kB,Jb,ih]
theorem Ag7 (xs:List (Int × Int)):(kM xs).length = 2 * xs.length:=by
 induction xs with
 | nil=>rfl
 | cons x r ih=>simp [kM,ih]; omega
theorem Agw (xs:List (Int × Int)):(kB xs).length = 2 * xs.length:=by
 induction xs with
 | nil=>rfl
 | cons x r ih=>simp [kB,ih]; omega
theorem Gs {kvs:List (Key × V)} {n:Int} (h:¬ (Sum.inl n:Key) ∈ kvs.map (·.1)):Cg kvs (Sum.inl n) = none:=by
 cases e:Cg kvs (Sum.inl n:Key) with
 | none=>rfl
 | some v=>exact absurd (Xo e) h
theorem Vr {kvs:List (Key × V)} (nd:(kvs.map (·.1)).Nodup) {k:Key} {v:V} (h:(k,v) ∈ kvs):Cg kvs k = some v:=by
 induction kvs with
 | nil=>cases h
 | cons p r ih =>
  have nd':(p.1 :: r.map (·.1)).Nodup:=nd
  obtain ⟨h1,h2⟩:=List.nodup_cons.mp nd'
  rcases List.mem_cons.mp h with e | e
  ·subst e; exact Lh rfl
  ·have:¬ p.1 = k:=fun z=>h1 (by rw [z]; exact List.mem_map.mpr ⟨_,e,rfl⟩)
   rw [Li this]; exact ih h2 e
theorem Qs {l:List Int} (h:l.Nodup):(l.map (Sum.inl:Int->Key)).Nodup:=by
 induction l with
 | nil=>exact List.nodup_nil
 | cons a r ih =>
  obtain ⟨h1,h2⟩:=List.nodup_cons.mp h
  refine List.nodup_cons.mpr ⟨fun m=>h1 ?_,ih h2⟩
  obtain ⟨b,hb,e⟩:=List.mem_map.mp m
  cases e; exact hb
theorem Fj {n:Nat} (h:n <= 1000):n < sizeLine:=Qa h
theorem Dd {α:Type} {l:List α} {i:Nat} {x:α} (h:l[i]? = some x):l.take (i + 1) = l.take i ++ [x]:=by
 obtain ⟨hi,e⟩:=List.getElem?_eq_some_iff.mp h
 rw [List.take_add_one,List.getElem?_eq_getElem hi,e]
 rfl
theorem Same.new {d:Addr} {H:Hp} {o:HO} (h:H d = none):Same H (upd H d o):=fun q u e=>by rw [Bi (Br e h)]; exact e
theorem TripAt.mono {H H':Hp} {x:V} {s:Sg} (h:TripAt H x s) (k:∀ q xs,H q = some (.tup xs)->H' q = some (.tup xs)):TripAt H' x s:=by
 obtain ⟨p,e,hp⟩:=h
 exact ⟨p,e,k p _ hp⟩
theorem PairAt.mono {H H':Hp} {x:V} {s:Int × Int} (h:PairAt H x s) (k:∀ q xs,H q = some (.tup xs)->H' q = some (.tup xs)):PairAt H' x s:=by
 obtain ⟨p,e,hp⟩:=h
 exact ⟨p,e,k p _ hp⟩
theorem Cf {CX:CXT} {P:Program} {w:World} {K:PySem.W.Frag} {mg:Str->Option Value} {base:Heap} {N:List Str} {qual:Str} {sc:Scope} {f:Addr} {cd:Value} {A:Around} {outer:List Env} {s:Shared} {H:Hp} {E:XK}:(Rz CX P w K mg base N qual sc f cd A outer s H E).K = K:=rfl
section
variable {σ:St} {H:Hp} {Q:VK} {K:PySem.W.Frag} {a d:Addr} {n:Int}
theorem Aaj {A B:Prop} (h:B):if (!true) = true then A else B:=Gz h
theorem Acw {P:Bool->Prop} (q:P true):∃ x m t b,[V.int n,V.ty "int"] = [x,V.ty m]/\Fb K H x t/\PySem.W.kitOne K t (.type m) = some b/\P b:=⟨_,_,_,_,rfl,.int n,Wv,q⟩
theorem AbA {P:Bool->Prop} (q:P false):∃ x m t b,[V.int n,V.ty "bool"] = [x,V.ty m]/\Fb K H x t/\PySem.W.kitOne K t (.type m) = some b/\P b:=⟨_,_,_,_,rfl,.int n,Vu,q⟩
theorem AcA {z:Str} {P:Bool->Prop} (q:P true):∃ x m t b,[V.str z,V.ty "str"] = [x,V.ty m]/\Fb K H x t/\PySem.W.kitOne K t (.type m) = some b/\P b:=⟨_,_,_,_,rfl,.str z,Wt,q⟩
theorem AfO {xs:List V} (h:H a = some (.lst xs)) {P:Bool->Prop} (q:P true):∃ x m t b,[V.ref a,V.ty "list"] = [x,V.ty m]/\Fb K H x t/\PySem.W.kitOne K t (.type m) = some b/\P b:=⟨_,_,_,_,rfl,.lst h,Up,q⟩
theorem Ail {xs:List V} (h:H a = some (.tup xs)) {P:Bool->Prop} (q:P true):∃ x m t b,[V.ref a,V.ty "tuple"] = [x,V.ty m]/\Fb K H x t/\PySem.W.kitOne K t (.type m) = some b/\P b:=⟨_,_,_,_,rfl,.tup h,Wu,q⟩
theorem Abh {xs:List V} (h:SqL K H a xs) {P:List V->Prop} (q:P xs):∃ p ys,[V.ref a] = [V.ref p]/\(SqL K H p ys\/SqT K H p ys)/\P ys:=⟨a,xs,rfl,.inl h,q⟩
theorem AgL {xs:List V} (h:H a = some (.tup xs)) {P:List V->Prop} (q:P xs):∃ p ys,[V.ref a] = [V.ref p]/\(SqL K H p ys\/SqT K H p ys)/\P ys:=⟨a,xs,rfl,.inr (SqT.of h),q⟩
theorem Ahv {kvs:List (Key × V)} (h:H d = some (.dK kvs)) {P:Option V->Prop} (q:P (Cg kvs (.inl n))):∃ a o,V.ref d = V.ref a/\DGet H a (.int n) o/\P o:=⟨d,_,rfl,DGet.k (k:=Sum.inl n) h,q⟩
theorem AbK {kvs:List (Key × V)} {v:V} {R:Hp->Prop} (h:H d = some (.dK kvs)) (q:R (upd H d (.dK (Fn kvs (.inl n) v)))) (hl:kvs.length < sizeLine):∃ a H4,V.ref d = V.ref a/\DPut H a (.int n) v H4/\R H4:=⟨d,_,rfl,DPut.k (k:=Sum.inl n) h hl,q⟩
theorem AhL {kvs:List (Key × V)} {P:Addr->Prop} (h:H d = some (.dK kvs)) (q:P d):∃ a,V.ref d = V.ref a/\IsD H a/\P a:=⟨d,rfl,.inl ⟨_,.inl h⟩,q⟩
theorem Ags {kvs:List (Key × V)} {P:Option V->Prop} (h:H d = some (.dK kvs)) (q:P (Cg kvs (.inl n))):∃ o,DGet H d (.int n) o/\P o:=⟨_,DGet.k (k:=Sum.inl n) h,q⟩
theorem Aii {P:Prop} {xs:List V} (h:H a = some (.lst xs)) (q:P):tyV K "list" (.ref a) H/\P:=⟨.inl ⟨rfl,_,SqL.of h⟩,q⟩
theorem Va {xs:List V} {i:Int} {v:V} (h:SqL K H a xs) (q:Q v H) (hv:atI xs i = some v):Yk K (.ref a) (.int i) H Q:=⟨a,xs,i,v,rfl,rfl,h,hv,q⟩
theorem Aeb {xs:List V} {i:Int} {v:V} (h:H a = some (.tup xs)) (q:Q v H) (hv:atI xs i = some v):Yv K (.ref a) (.int i) H Q:=⟨a,xs,i,v,rfl,rfl,SqT.of h,hv,q⟩
end
section
variable {S:List Sg} {M:List (Int × Int)} {s:Sg} {m:Int × Int} {n:Int}
end
abbrev Jn:=Int × Int × Int
def joinedK:List Str:=["fore","back","num","blank","plain"]
def TrjAt (H:Hp) (x:V) (j:Jn):Prop:=∃ p,x = .ref p/\H p = some (.tup [.int j.1,.int j.2.1,.int j.2.2])
def KvAt (H:Hp) (kv:Key × V) (j:Jn):Prop:=kv.1 = Sum.inl j.1/\∃ p,kv.2 = .ref p/\H p = some (.tup [.int j.2.1,.int j.2.2])
theorem TrjAt.mono {H H':Hp} {x:V} {j:Jn} (h:TrjAt H x j) (k:∀ q xs,H q = some (.tup xs)->H' q = some (.tup xs)):TrjAt H' x j:=by
 obtain ⟨p,e,hp⟩:=h
 exact ⟨p,e,k p _ hp⟩
theorem KvAt.mono {H H':Hp} {x:Key × V} {j:Jn} (h:KvAt H x j) (k:∀ q xs,H q = some (.tup xs)->H' q = some (.tup xs)):KvAt H' x j:=by
 obtain ⟨e1,p,e,hp⟩:=h
 exact ⟨e1,p,e,k p _ hp⟩
theorem LAt.tripS {H H':Hp} {xs:List V} {S:List Sg} (h:LAt TripAt H xs S) (s:Same H H'):LAt TripAt H' xs S:=h.mono fun _ _ z=>z.mono fun _ _ e=>s _ _ e
theorem LAt.pairS {H H':Hp} {xs:List V} {S:List (Int × Int)} (h:LAt PairAt H xs S) (s:Same H H'):LAt PairAt H' xs S:=h.mono fun _ _ z=>z.mono fun _ _ e=>s _ _ e
theorem LAt.trjS {H H':Hp} {xs:List V} {S:List Jn} (h:LAt TrjAt H xs S) (s:Same H H'):LAt TrjAt H' xs S:=h.mono fun _ _ z=>z.mono fun _ _ e=>s _ _ e
theorem LAt.kvS {H H':Hp} {xs:List (Key × V)} {S:List Jn} (h:LAt KvAt H xs S) (s:Same H H'):LAt KvAt H' xs S:=h.mono fun _ _ z=>z.mono fun _ _ e=>s _ _ e
theorem LAt.take {β α:Type} {R:Hp->β->α->Prop} {H:Hp} {xs:List β} {ys:List α} (h:LAt R H xs ys) (n:Nat):LAt R H (xs.take n) (ys.take n) :=
 ⟨by rw [List.length_take,List.length_take,h.1],fun i x y e1 e2=>by
  rw [List.getElem?_take] at e1 e2
  split at e1
  ·rename_i hi
   rw [if_pos hi] at e2
   exact h.2 i x y e1 e2
  ·cases e1⟩
theorem LAt.drop {β α:Type} {R:Hp->β->α->Prop} {H:Hp} {xs:List β} {ys:List α} (h:LAt R H xs ys) (n:Nat):LAt R H (xs.drop n) (ys.drop n) :=
 ⟨by rw [List.length_drop,List.length_drop,h.1],fun i x y e1 e2=>by
  rw [List.getElem?_drop] at e1 e2
  exact h.2 _ x y e1 e2⟩
theorem LAt.append {β α:Type} {R:Hp->β->α->Prop} {H:Hp} {xs xs':List β} {ys ys':List α} (h:LAt R H xs ys) (h':LAt R H xs' ys'):LAt R H (xs ++ xs') (ys ++ ys') :=
 ⟨by rw [List.length_append,List.length_append,h.1,h'.1],fun i x y e1 e2=>by
  by_cases hi:i < xs.length
  ·rw [List.getElem?_append_left hi] at e1
   rw [List.getElem?_append_left (by rw [<- h.1]; exact hi)] at e2
   exact h.2 i x y e1 e2
  ·rw [List.getElem?_append_right (by omega)] at e1
   rw [List.getElem?_append_right (by rw [<- h.1]; omega),<- h.1] at e2
   exact h'.2 _ x y e1 e2⟩
theorem LAt.uncons {β α:Type} {R:Hp->β->α->Prop} {H:Hp} {x:β} {xs:List β} {y:α} {ys:List α} (h:LAt R H (x :: xs) (y :: ys)):R H x y/\LAt R H xs ys :=
 ⟨h.2 0 x y rfl rfl,by simpa using h.1,fun i u v e1 e2=>h.2 (i + 1) u v e1 e2⟩
def Fa:List Jn->Int->Option (Int × Int)
 | [],_=>none
 | j :: r,n=>if j.1 = n then some j.2 else Fa r n
def Ge (J:List Jn) (n:Int):Int:=match Fa J n with | some m=>m.1 | none=>n
def jGo (J:List Jn):Nat->Int->Int
 | 0,n=>n
 | k + 1,n=>Ge J (jGo J k n)
theorem Zd {J:List Jn} {n:Int} {m:Int × Int} (h:Fa J n = some m):(n,m) ∈ J:=by
 induction J with
 | nil=>cases h
 | cons x r ih =>
  unfold Fa at h
  split at h
  ·rename_i e
   cases h
   rw [<- e]; exact List.mem_cons_self
  ·exact List.mem_cons_of_mem _ (ih h)
theorem Vg {H:Hp} {kvs:List (Key × V)} {J:List Jn} (h:LAt KvAt H kvs J) (n:Int) :
  (Fa J n = none/\Cg kvs (Sum.inl n) = none)\/∃ m p,Fa J n = some m/\Cg kvs (Sum.inl n) = some (.ref p)/\H p = some (.tup [.int m.1,.int m.2]):=by
 induction kvs generalizing J with
 | nil =>
  cases J with
  | nil=>exact .inl ⟨rfl,rfl⟩
  | cons j r=>have:=h.1; simp at this
 | cons kv ks ih =>
  cases J with
  | nil=>have:=h.1; simp at this
  | cons j r =>
   obtain ⟨⟨h1,p,e,hp⟩,h3⟩:=h.uncons
   unfold Fa
   by_cases z:j.1 = n
   ·rw [if_pos z]
    exact .inr ⟨j.2,p,rfl,by rw [Lh (by rw [h1,z]),e],hp⟩
   ·rw [if_neg z,Li (by rw [h1]; intro w; exact z (Sum.inl.inj w))]
    exact ih h3
def kW (J:List Jn):List (List Key × V):=J.map fun j=>([Sum.inl j.2.1,Sum.inl j.2.2],V.int j.1)
theorem Aik {J:List Jn} {a b:Int} (h:¬ (a,b) ∈ J.map (·.2)):Cg (kW J) [Sum.inl a,Sum.inl b] = none:=by
 cases e:Cg (kW J) ([Sum.inl a,Sum.inl b]:List Key) with
 | none=>rfl
 | some v =>
  have:=Xo e
  unfold kW at this
  rw [List.map_map] at this
  obtain ⟨j,hj,z⟩:=List.mem_map.mp this
  have z':([Sum.inl j.2.1,Sum.inl j.2.2]:List Key) = [Sum.inl a,Sum.inl b]:=z
  injection z' with z1 z2
  injection z2 with z3 z4
  exact absurd (List.mem_map.mpr ⟨j,hj,Prod.ext (Sum.inl.inj z1) (Sum.inl.inj z3)⟩) h
def knd (kk:List (Key × V)) (n:Int):V:=(Cg kk (Sum.inl n)).getD (.str "plain")
structure Yo (kk:List (Key × V)) (J:List Jn):Prop where
 nn:∀ j ∈ J,0 <= j.1/\0 <= j.2.1/\0 <= j.2.2
 mr:∀ j ∈ J,knd kk j.2.2 = .str "mark"
 kd:∀ j ∈ J,∃ k ∈ joinedK,knd kk j.1 = .str k/\knd kk j.2.1 = .str k
 nw:(J.map (·.1)).Nodup
 np:(J.map (·.2)).Nodup
 en:∀ j ∈ J,Fa J (jGo J 7 j.1) = none
 ln:J.length <= 400
theorem Afp {c A B:Prop} [Decidable c] (hc:c) (h:A):if decide c = true then A else B:=by
 rw [if_pos (decide_eq_true hc)]; exact h
theorem AcC {H:Hp} {a:Addr} {u o:HO} (h:H a = some u):upd (upd H a o) a u = H:=by
 rw [Ff]; funext b; unfold upd; split
 ·rename_i e; rw [e,h]
 ·rfl
theorem AfT {H:Hp} {a:Addr} {u:HO} {o:Obj}:Rd (upd H a (.frz o u)) a u:=.inr ⟨o,Bq⟩
theorem Zr {α:Type} {l:List α} {i:Nat} {x:α} (nd:l.Nodup) (h:l[i]? = some x):¬ x ∈ l.take i:=by
 obtain ⟨hi,e⟩:=List.getElem?_eq_some_iff.mp h
 rw [<- List.take_append_drop i l,List.drop_eq_getElem_cons hi,e] at nd
 intro m
 exact (List.nodup_append.mp nd).2.2 _ m _ List.mem_cons_self rfl
theorem Qi {α β:Type} {l:List α} {f:α->β} {i:Nat} {x:α} (nd:(l.map f).Nodup) (h:l[i]? = some x):¬ f x ∈ (l.take i).map f:=by
 rw [List.map_take]
 exact Zr nd (by rw [List.getElem?_map,h]; rfl)
def bkF (dk dr dm dp dw:Addr):List (Str × V):=Bs "wholes" (.ref dw) (Bs "pairs" (.ref dp) (Bs "mates" (.ref dm) (Bs "ranks" (.ref dr) (Bs "kinds" (.ref dk) []))))
theorem Aba {dk dr dm dp dw:Addr}:(bkF dk dr dm dp dw).lookup ("kinds" : Str) = some (.ref dk):=by
 unfold bkF
 rw [Cm,if_neg (by decide +kernel),Cm,if_neg (by decide +kernel),Cm,if_neg (by decide +kernel),Cm,if_neg (by decide +kernel),Cm,if_pos rfl]
theorem Agy {dk dr dm dp dw:Addr} {m:Str} (h1:¬ m = "wholes") (h2:¬ m = "pairs") (h3:¬ m = "mates") (h4:¬ m = "ranks") (h5:¬ m = "kinds"):(bkF dk dr dm dp dw).lookup m = none:=by
 unfold bkF
 rw [Cm,if_neg h1,Cm,if_neg h2,Cm,if_neg h3,Cm,if_neg h4,Cm,if_neg h5]
 rfl
theorem Wi {dk dr dm dp dw:Addr}:(bkF dk dr dm dp dw).lookup ("kind" : Str) = none:=Agy (by decide +kernel) (by decide +kernel) (by decide +kernel) (by decide +kernel) (by decide +kernel)
def BookAt (C:Addr) (H:Hp) (b:Addr) (k r m p:List (Key × V)) (w:List (List Key × V)):Prop :=
 ∃ dx dk dr dm dp dw,H b = some (.ins C dx (bkF dk dr dm dp dw))/\H dk = some (.dK k)/\H dr = some (.dK r)/\H dm = some (.dK m)/\H dp = some (.dK p)/\H dw = some (.dT w)
theorem BookAt.mono {C:Addr} {H H':Hp} {b:Addr} {k r m p:List (Key × V)} {w:List (List Key × V)} (h:BookAt C H b k r m p w) (s:∀ q o,H q = some o->(∀ xs,o ≠ .lst xs)->H' q = some o):BookAt C H' b k r m p w:=by
 obtain ⟨dx,dk,dr,dm,dp,dw,h1,h2,h3,h4,h5,h6⟩:=h
 exact ⟨dx,dk,dr,dm,dp,dw,s _ _ h1 (fun _ z=>nomatch z),s _ _ h2 (fun _ z=>nomatch z),s _ _ h3 (fun _ z=>nomatch z),s _ _ h4 (fun _ z=>nomatch z),s _ _ h5 (fun _ z=>nomatch z),s _ _ h6 (fun _ z=>nomatch z)⟩
theorem AbG {C b:Addr} {H:Hp} {k r m p:List (Key × V)} {w:List (List Key × V)} {nm:Str} {P:Prop} (h:BookAt C H b k r m p w) (hm:∀ {dk dr dm dp dw:Addr},(bkF dk dr dm dp dw).lookup nm = none) (q:P) :
  ∃ a dx fs,V.ref b = V.ref a/\H a = some (.ins C dx fs)/\fs.lookup nm = none/\P:=by
 obtain ⟨dx,dk,dr,dm,dp,dw,h1,_⟩:=h
 exact ⟨b,dx,_,rfl,h1,hm,q⟩
def Keep (p:Addr) (H H':Hp):Prop:=∀ q o,H q = some o->q ≠ p->H' q = some o
theorem Keep.trans {p:Addr} {H H1 H2:Hp} (a:Keep p H H1) (b:Keep p H1 H2):Keep p H H2:=fun q o h n=>b q o (a q o h n) n
theorem Keep.new {p d:Addr} {H:Hp} {o:HO} (h:H d = none):Keep p H (upd H d o):=fun q u e _=>by rw [Bi (Br e h)]; exact e
theorem Keep.put {p:Addr} {H:Hp} {o:HO}:Keep p H (upd H p o):=fun q u e n=>by rw [Bi n]; exact e
theorem Keep.free {p:Addr} {H H':Hp} {o:HO} (k:Keep p H H') (hp:H' p = some o) {d:Addr} (h:H' d = none):H d = none:=by
 cases e:H d with
 | none=>rfl
 | some u =>
  by_cases z:d = p
  ·subst z; rw [hp] at h; cases h
  ·rw [k _ _ e z] at h; cases h
def Xd (C:Addr):Sp:=fun vs H Q _=>∃ p dx a b cc xs ys zs signs mates J,vs = [.ref p,.ref a,.ref b,.ref cc]/\H p = some (.ins C dx [])/\H a = some (.lst xs)/\H b = some (.lst ys)/\H cc = some (.lst zs)/\LAt TripAt H xs signs/\LAt PairAt H ys mates/\LAt TrjAt H zs J /\
 (∀ s ∈ signs,Uu s)/\(∀ m ∈ mates,0 <= m.1/\0 <= m.2)/\(signs.map (·.1) ++ Jb mates).Nodup/\Yo (kK signs ++ kM mates) J/\signs.length + 2 * mates.length <= 400 /\
 ∀ H' kvs dx dk dr dm dp dw,Keep p H H'->H dk = none->H dr = none->H dm = none->H dp = none->H dw = none->H' p = some (.ins C dx (bkF dk dr dm dp dw))->H' dk = some (.dK (kK signs ++ kM mates))->H' dr = some (.dK (kR signs))->H' dm = some (.dK (kB mates))->H' dp = some (.dK kvs)->H' dw = some (.dT (kW J))->LAt KvAt H' kvs J->Q .non H'
def Tj (C:Addr):Sp:=fun vs H Q _=>∃ b n k r m p w,vs = [.ref b,.int n]/\BookAt C H b k r m p w/\Q ((Cg k (Sum.inl n)).getD (.str "plain")) H
theorem AaJ {C b:Addr} {n:Int} {k r m p:List (Key × V)} {w:List (List Key × V)} {H:Hp} {Q:VK} {E:XK} (h:BookAt C H b k r m p w) (q:Q ((Cg k (Sum.inl n)).getD (.str "plain")) H):Tj C [.ref b,.int n] H Q E:=⟨b,n,k,r,m,p,w,rfl,h,q⟩
inductive PV where
 | non | bl (b:Bool) | int (i:Int) | str (x:Str)
 | lst (xs:List PV) | tup (xs:List PV) | ctp (xs:List PV)
 | dk (kvs:List (Key × PV)) | dt (kvs:List (List Key × PV))
 | bk (S:List Sg) (M:List (Int × Int)) (J:List Jn)
 | scr (ns:List Int)
 | exc (c:Addr) | cls (c:Addr) | ty (n:String)
inductive Rep (K:PySem.W.Frag) (C:Addr) (G:Hp):V->PV->Prop where
 | non:Rep K C G .non .non
 | bl (b:Bool):Rep K C G (.bl b) (.bl b)
 | int (i:Int):Rep K C G (.int i) (.int i)
 | str (x:Str):Rep K C G (.str x) (.str x)
 | lst {a:Addr} {vs:List V} {ps:List PV} (e:G a = some (.lst vs)) (l:vs.length = ps.length) (h:∀ (i:Nat) (v:V) (p:PV),vs[i]? = some v->ps[i]? = some p->Rep K C G v p):Rep K C G (.ref a) (.lst ps)
 | tup {a:Addr} {vs:List V} {ps:List PV} (e:G a = some (.tup vs)) (l:vs.length = ps.length) (h:∀ (i:Nat) (v:V) (p:PV),vs[i]? = some v->ps[i]? = some p->Rep K C G v p):Rep K C G (.ref a) (.tup ps)
 | ctp {a:Addr} {vs:List V} {ps:List PV} (e:∀ H,SqT K H a vs) (l:vs.length = ps.length) (h:∀ (i:Nat) (v:V) (p:PV),vs[i]? = some v->ps[i]? = some p->Rep K C G v p):Rep K C G (.ref a) (.ctp ps)
 | dk {a:Addr} {kvs:List (Key × V)} {ps:List (Key × PV)} (e:G a = some (.dK kvs)) (l:kvs.length = ps.length) (hk:∀ (i:Nat) (v:Key × V) (p:Key × PV),kvs[i]? = some v->ps[i]? = some p->v.1 = p.1)
   (h:∀ (i:Nat) (v:Key × V) (p:Key × PV),kvs[i]? = some v->ps[i]? = some p->Rep K C G v.2 p.2):Rep K C G (.ref a) (.dk ps)
 | dt {a:Addr} {kvs:List (List Key × V)} {ps:List (List Key × PV)} (e:G a = some (.dT kvs)) (l:kvs.length = ps.length) (hk:∀ (i:Nat) (v:List Key × V) (p:List Key × PV),kvs[i]? = some v->ps[i]? = some p->v.1 = p.1)
   (h:∀ (i:Nat) (v:List Key × V) (p:List Key × PV),kvs[i]? = some v->ps[i]? = some p->Rep K C G v.2 p.2):Rep K C G (.ref a) (.dt ps)
 | bk {b:Addr} {S:List Sg} {M:List (Int × Int)} {J:List Jn} {kvs:List (Key × V)} (h:BookAt C G b (kK S ++ kM M) (kR S) (kB M) kvs (kW J)) (l:LAt KvAt G kvs J):Rep K C G (.ref b) (.bk S M J)
 | scr {a:Addr} {ns:List Int} (h:SqL K G a (ns.map V.int)):Rep K C G (.ref a) (.scr ns)
 | exc {a c:Addr} (e:G a = some (.ext (Aio a c))):Rep K C G (.ref a) (.exc c)
 | cls {c:Addr}:Rep K C G (.ref c) (.cls c)
 | ty {n:String}:Rep K C G (.ty n) (.ty n)
section
variable {K:PySem.W.Frag} {C:Addr} {ω:Om} {G G' H H':Hp} {v:V} {p:PV} {a:Addr}
theorem Rep.mono (h:Rep K C G v p) (s:Same G G'):Rep K C G' v p:=by
 induction h with
 | non=>exact .non
 | bl b=>exact .bl b
 | int i=>exact .int i
 | str x=>exact .str x
 | lst e l _ ih=>exact .lst (s _ _ e) l ih
 | tup e l _ ih=>exact .tup (s _ _ e) l ih
 | ctp e l _ ih=>exact .ctp e l ih
 | dk e l hk _ ih=>exact .dk (s _ _ e) l hk ih
 | dt e l hk _ ih=>exact .dt (s _ _ e) l hk ih
 | bk h l=>exact .bk (h.mono fun _ _ e _=>s _ _ e) (l.kvS s)
 | scr h=>exact .scr (s.seq h)
 | exc e=>exact .exc (s _ _ e)
 | cls=>exact .cls
 | ty=>exact .ty
def KRep {κ:Type} (K:PySem.W.Frag) (C:Addr) (G:Hp) (v:κ × V) (p:κ × PV):Prop:=v.1 = p.1/\Rep K C G v.2 p.2
theorem KRep.mono {κ:Type} {v:κ × V} {p:κ × PV} (h:KRep K C G v p) (s:Same G G'):KRep K C G' v p:=⟨h.1,h.2.mono s⟩
abbrev Reps (K:PySem.W.Frag) (C:Addr) (G:Hp) (vs:List V) (ps:List PV):Prop:=LAt (Rep K C) G vs ps
theorem Reps.mono {vs:List V} {ps:List PV} (h:Reps K C G vs ps) (s:Same G G'):Reps K C G' vs ps:=LAt.mono h fun _ _ z=>z.mono s
theorem KReps.mono {κ:Type} {vs:List (κ × V)} {ps:List (κ × PV)} (h:LAt (KRep K C) G vs ps) (s:Same G G'):LAt (KRep K C) G' vs ps:=LAt.mono h fun _ _ z=>z.mono s
theorem Rep.ofL {vs:List V} {ps:List PV} (e:G a = some (.lst vs)) (h:Reps K C G vs ps):Rep K C G (.ref a) (.lst ps):=.lst e h.1 h.2
theorem Rep.ofT {vs:List V} {ps:List PV} (e:G a = some (.tup vs)) (h:Reps K C G vs ps):Rep K C G (.ref a) (.tup ps):=.tup e h.1 h.2
theorem Rep.ofD {vs:List (Key × V)} {ps:List (Key × PV)} (e:G a = some (.dK vs)) (h:LAt (KRep K C) G vs ps):Rep K C G (.ref a) (.dk ps):=.dk e h.1 (fun i v p h1 h2=>(h.2 i v p h1 h2).1) (fun i v p h1 h2=>(h.2 i v p h1 h2).2)
theorem Rep.ofDt {vs:List (List Key × V)} {ps:List (List Key × PV)} (e:G a = some (.dT vs)) (h:LAt (KRep K C) G vs ps):Rep K C G (.ref a) (.dt ps):=.dt e h.1 (fun i v p h1 h2=>(h.2 i v p h1 h2).1) (fun i v p h1 h2=>(h.2 i v p h1 h2).2)
def Op (o:HO):Prop:=∀ xs,o ≠ .tup xs
def OwnA (K:PySem.W.Frag) (C:Addr) (G H:Hp) (a:Addr):PV->Prop
 | .lst ps=>∃ vs,H a = some (.lst vs)/\Reps K C G vs ps
 | .dk ps=>∃ kvs,H a = some (.dK kvs)/\LAt (KRep K C) G kvs ps
 | .dt ps=>∃ kvs,H a = some (.dT kvs)/\LAt (KRep K C) G kvs ps
 | _=>False
theorem OwnA.ofL {vs:List V} {ps:List PV} (e:H a = some (.lst vs)) (r:Reps K C G vs ps):OwnA K C G H a (.lst ps):=⟨vs,e,r⟩
theorem OwnA.ofD {vs:List (Key × V)} {ps:List (Key × PV)} (e:H a = some (.dK vs)) (r:LAt (KRep K C) G vs ps):OwnA K C G H a (.dk ps):=⟨vs,e,r⟩
theorem OwnA.here (h:OwnA K C G H a p):H a ≠ none:=by
 cases p <;> first | exact h.elim | (obtain ⟨_,e,_⟩:=h; rw [e]; exact fun z=>nomatch z)
theorem OwnA.thing (h:OwnA K C G H a p):∃ o,H a = some o/\Op o:=by
 cases p <;> first | exact h.elim | (obtain ⟨_,e,_⟩:=h; exact ⟨_,e,fun _ z=>nomatch z⟩)
theorem OwnA.mono (h:OwnA K C G H a p) (s:Same G G') (e:H' a = H a):OwnA K C G' H' a p:=by
 cases p <;> first | exact h.elim | (obtain ⟨vs,e1,l⟩:=h; exact ⟨vs,by rw [e]; exact e1,l.mono s⟩) | (obtain ⟨vs,e1,l⟩:=h; exact ⟨vs,by rw [e]; exact e1,KReps.mono l s⟩)
def RepB (K:PySem.W.Frag) (C:Addr) (G H:Hp) (v:V) (p:PV):Prop:=Rep K C G v p\/∃ a,v = .ref a/\OwnA K C G H a p
structure Grow (G H G' H':Hp):Prop where
 g:Same G G'
 h:Same H H'
 i:Same G' H'
 n:∀ a o,H a = some o->Op o->G a = none->G' a = none
theorem Grow.refl (s:Same G H):Grow G H G H:=⟨Same.refl _,Same.refl _,s,fun _ _ _ _ h=>h⟩
theorem _root_.L2.Same.eq (s:Same H H') {a:Addr} (h:H a ≠ none):H' a = H a:=by
 cases e:H a with
 | none=>exact absurd e h
 | some o=>exact s _ _ e
theorem Grow.trans {G1 H1:Hp} (x:Grow G H G1 H1) (y:Grow G1 H1 G' H'):Grow G H G' H':=⟨x.g.trans y.g,x.h.trans y.h,y.i,fun a o h1 t h2=>y.n a o (x.h _ _ h1) t (x.n a o h1 t h2)⟩
theorem RepB.grow (h:RepB K C G H v p) (w:Grow G H G' H'):RepB K C G' H' v p:=by
 rcases h with h | ⟨a,e,h⟩
 ·exact .inl (h.mono w.g)
 ·exact .inr ⟨a,e,h.mono w.g (w.h.eq h.here)⟩
theorem Grow.put {o:HO} (s:Same G H) (n:H a = none) (s2:Same H H') (e:H' a = some o):Grow G H (upd G a o) H':=by
 have gn:G a = none:=s.free n
 refine ⟨Same.new gn,s2,fun b u h=>?_,fun b u h1 _ h2=>?_⟩
 ·by_cases z:b = a
  ·subst z; rw [Bq] at h; rw [e]; exact h
  ·rw [Bi z] at h; exact s2 _ _ (s _ _ h)
 ·rw [Bi (by intro z; subst z; rw [n] at h1; cases h1)]; exact h2
theorem Grow.own (s:Same G H) (s2:Same H H'):Grow G H G H':=⟨Same.refl _,s2,s.trans s2,fun _ _ _ _ h=>h⟩
end
inductive Sl where
 | un | sh (p:PV) | bo (p:PV) | ow (p:PV) | fz (z:Addr × Obj × List (Key × V)) (kvs:List (Key × PV)) | bz (kvs:List (Key × PV)) | fl (z:Addr × List V) (ps:List PV)
abbrev Bj:=List Sl
def SlOk (K:PySem.W.Frag) (C:Addr) (G0 H0:Hp) (own:Nat->Option Addr) (G:Hp) (σ:St) (H:Hp) (i:Nat):Sl->Prop
 | .un=>True
 | .sh p=>∃ v,σ[i]? = some (some v)/\Rep K C G v p
 | .bo p=>∃ v,σ[i]? = some (some v)/\RepB K C G0 H0 v p
 | .ow p=>∃ a,σ[i]? = some (some (.ref a))/\own i = some a/\OwnA K C G H a p
 | .fz z kvs=>σ[i]? = some (some (.ref z.1))/\own i = some z.1/\H z.1 = some (.frz z.2.1 (.dK z.2.2))/\LAt (KRep K C) G z.2.2 kvs
 | .bz kvs=>∃ a o vs,σ[i]? = some (some (.ref a))/\H0 a = some (.frz o (.dK vs))/\LAt (KRep K C) G vs kvs
 | .fl z ps=>σ[i]? = some (some (.ref z.1))/\own i = some z.1/\H z.1 = some (.lst z.2)/\Reps K C G z.2 ps
structure Om where
 E:XK
 X:Nat->Prop
 ca:Nat->Addr
def Om.no:Om:=⟨fun _ _ _=>False,fun _=>False,fun _=>0⟩
structure Sat (K:PySem.W.Frag) (C:Addr) (ω:Om) (B G0 H0:Hp) (own:Nat->Option Addr) (G:Hp) (σ:St) (H:Hp) (ρ:Bj):Prop where
 kb:Same B G
 gr:Grow G0 H0 G H
 len:σ.length = ρ.length
 inj:∀ i j a,own i = some a->own j = some a->i = j
 fr:∀ i a,own i = some a->H0 a = none/\G a = none/\∃ o,H a = some o/\Op o
 sl:∀ i s,ρ[i]? = some s->SlOk K C G0 H0 own G σ H i s
 ex:∀ x H',Same H0 H'->ω.X x->ω.E (.ref (ω.ca x)) none H'
abbrev UE:=Bj->(PV->Prop)->Prop
abbrev UT:=Bj->(Bool->Prop)->Prop
abbrev UA:=Bj->(List PV->Prop)->Prop
structure Fi where
 nx:Bj->Prop
 rt:PV->Prop
 bk:Bj->Prop
 ct:Bj->Prop
abbrev US:=Fi->Bj->Prop
section
variable (K:PySem.W.Frag) (C:Addr) (ω:Om)
def EB (t:TE) (u:UE):Prop:=∀ (B G0 H0:Hp) (own:Nat->Option Addr) (G:Hp) (σ:St) (H:Hp) (ρ:Bj) (P:PV->Prop) (Q:VK),Sat K C ω B G0 H0 own G σ H ρ->u ρ P->(∀ v p G' H',Grow G H G' H'->RepB K C G' H' v p->P p->Q v H')->t σ H Q
def EU (t:TE) (u:UE):Prop:=∀ (B G0 H0:Hp) (own:Nat->Option Addr) (G:Hp) (σ:St) (H:Hp) (ρ:Bj) (P:PV->Prop) (Q:VK),Sat K C ω B G0 H0 own G σ H ρ->u ρ P->(∀ v p G' H',Grow G H G' H'->Rep K C G' v p->P p->Q v H')->t σ H Q
def EF (t:TE) (u:UE):Prop:=∀ (B G0 H0:Hp) (own:Nat->Option Addr) (G:Hp) (σ:St) (H:Hp) (ρ:Bj) (P:PV->Prop) (Q:VK),Sat K C ω B G0 H0 own G σ H ρ->u ρ P->(∀ a p G' H',Grow G H G' H'->H a = none->G' a = none->OwnA K C G' H' a p->P p->Q (.ref a) H')->t σ H Q
def TU (t:TT) (u:UT):Prop:=∀ (B G0 H0:Hp) (own:Nat->Option Addr) (G:Hp) (σ:St) (H:Hp) (ρ:Bj) (P:Bool->Prop) (Q:Bool->Hp->Prop),Sat K C ω B G0 H0 own G σ H ρ->u ρ P->(∀ b G' H',Grow G H G' H'->P b->Q b H')->t σ H Q
def ArgsOk (G H:Hp):List Bool->List V->List PV->Prop
 | [],[],[]=>True
 | true :: ms,v :: vs,p :: ps=>Rep K C G v p/\ArgsOk G H ms vs ps
 | false :: ms,v :: vs,p :: ps=>RepB K C G H v p/\ArgsOk G H ms vs ps
 | _,_,_=>False
def AU (ms:List Bool) (t:TA) (u:UA):Prop:=∀ (B G0 H0:Hp) (own:Nat->Option Addr) (G:Hp) (σ:St) (H:Hp) (ρ:Bj) (P:List PV->Prop) (Q:List V->Hp->Prop),Sat K C ω B G0 H0 own G σ H ρ->u ρ P->(∀ vs ps G' H',Grow G H G' H'->ArgsOk K C G' H' ms vs ps->P ps->Q vs H')->t σ H Q
inductive Rm where
 | sh | fr
def ROk (rm:Rm) (H0 G H:Hp) (v:V) (p:PV):Prop:=match rm with
 | .sh=>Rep K C G v p
 | .fr=>∃ a,v = .ref a/\H0 a = none/\G a = none/\OwnA K C G H a p
structure Aag (rm:Rm) (B G0 H0:Hp) (D:Ends) (d:Fi):Prop where
 nx:∀ own G σ H ρ,Sat K C ω B G0 H0 own G σ H ρ->d.nx ρ->D.nx σ H
 rt:∀ G H v p,Grow G0 H0 G H->ROk K C rm H0 G H v p->d.rt p->D.rt v H
 bk:∀ own G σ H ρ,Sat K C ω B G0 H0 own G σ H ρ->d.bk ρ->D.bk σ H
 ct:∀ own G σ H ρ,Sat K C ω B G0 H0 own G σ H ρ->d.ct ρ->D.ct σ H
def SU (rm:Rm) (t:TS) (u:US):Prop:=∀ (B G0 H0:Hp) (own:Nat->Option Addr) (G:Hp) (σ:St) (H:Hp) (ρ:Bj) (D:Ends) (d:Fi),Sat K C ω B G0 H0 own G σ H ρ->Aag K C ω rm B G0 H0 D d->u d ρ->t D σ H
def GU (top:Nat) (g:TG) (u:PV->Bj->(Bj->Prop)->Prop):Prop:=∀ (B G0 H0:Hp) (own:Nat->Option Addr) (G:Hp) (σ:St) (H:Hp) (ρ:Bj) (v:V) (p:PV) (P:Bj->Prop) (R:St->Hp->Prop),Sat K C ω B G0 H0 own G σ H ρ->Rep K C G v p->u p ρ P ->
 (∀ own' σ' ρ',Sat K C ω B G0 H0 own' G σ' H ρ'->σ'.drop top = σ.drop top->P ρ'->R σ' H)->g v σ H R
def GsU (top:Nat) (g:TGs) (u:List PV->Bj->(Bj->Prop)->Prop):Prop:=∀ (B G0 H0:Hp) (own:Nat->Option Addr) (G:Hp) (σ:St) (H:Hp) (ρ:Bj) (vs:List V) (ps:List PV) (P:Bj->Prop) (R:St->Hp->Prop),Sat K C ω B G0 H0 own G σ H ρ->Reps K C G vs ps->u ps ρ P ->
 (∀ own' σ' ρ',Sat K C ω B G0 H0 own' G σ' H ρ'->σ'.drop top = σ.drop top->P ρ'->R σ' H)->g vs σ H R
end
section
variable {K:PySem.W.Frag} {C:Addr} {ω:Om} {B G0 H0 G G' H H':Hp} {own:Nat->Option Addr} {σ:St} {ρ:Bj}
theorem SlOk.grow {i:Nat} {s:Sl} (h:SlOk K C G0 H0 own G σ H i s) (w:Grow G H G' H'):SlOk K C G0 H0 own G' σ H' i s:=by
 cases s with
 | un=>trivial
 | sh p=>obtain ⟨v,e,r⟩:=h; exact ⟨v,e,r.mono w.g⟩
 | bo p=>exact h
 | ow p=>obtain ⟨a,e,o,r⟩:=h; exact ⟨a,e,o,r.mono w.g (w.h.eq r.here)⟩
 | fz z kvs=>obtain ⟨e,o,h1,h2⟩:=h; exact ⟨e,o,w.h _ _ h1,KReps.mono h2 w.g⟩
 | bz kvs=>obtain ⟨a,o,vs,e,h1,h2⟩:=h; exact ⟨a,o,vs,e,h1,KReps.mono h2 w.g⟩
 | fl z ps=>obtain ⟨e,o,h1,h2⟩:=h; exact ⟨e,o,w.h _ _ h1,h2.mono w.g⟩
theorem Sat.grow (S:Sat K C ω B G0 H0 own G σ H ρ) (w:Grow G H G' H'):Sat K C ω B G0 H0 own G' σ H' ρ :=
 ⟨S.kb.trans w.g,S.gr.trans w,S.len,S.inj,fun i a e=>let ⟨f0,fg,o,ho,ht⟩:=S.fr i a e; ⟨f0,w.n a o ho ht fg,o,w.h _ _ ho,ht⟩,fun i s e=>(S.sl i s e).grow w,S.ex⟩
theorem Sat.base {B':Hp} (S:Sat K C ω B G0 H0 own G σ H ρ) (h:Same B' G):Sat K C ω B' G0 H0 own G σ H ρ:=⟨h,S.gr,S.len,S.inj,S.fr,S.sl,S.ex⟩
def Uz (own:Nat->Option Addr) (i:Nat):Nat->Option Addr:=fun j=>if j = i then none else own j
def Qd (own:Nat->Option Addr) (i:Nat) (a:Addr):Nat->Option Addr:=fun j=>if j = i then some a else own j
theorem Os {own:Nat->Option Addr} {i j:Nat} {a:Addr} (h:Uz own i j = some a):j ≠ i/\own j = some a:=by
 unfold Uz at h
 split at h
 ·cases h
 ·rename_i z; exact ⟨z,h⟩
theorem Nf {α:Type} {l:List α} {i j:Nat} {x s:α} (h:(l.set i x)[j]? = some s):(j = i/\s = x/\i < l.length)\/(j ≠ i/\l[j]? = some s):=by
 by_cases z:j = i
 ·subst z
  rw [List.getElem?_set_self'] at h
  cases e:l[j]? with
  | none=>rw [e] at h; cases h
  | some y=>rw [e] at h; cases h; exact .inl ⟨rfl,rfl,(List.getElem?_eq_some_iff.mp e).1⟩
 ·rw [List.getElem?_set_ne (Ne.symm z)] at h; exact .inr ⟨z,h⟩
theorem Xe {α:Type} {l:List α} {i j:Nat} {x:α} (z:j ≠ i):(l.set i x)[j]? = l[j]?:=List.getElem?_set_ne (Ne.symm z)
theorem Xc {α:Type} {l:List α} {i:Nat} {x:α} (h:i < l.length):(l.set i x)[i]? = some x:=by rw [List.getElem?_set_self h]
theorem SlOk.other {own':Nat->Option Addr} {σ':St} {i:Nat} {s:Sl} (h:SlOk K C G0 H0 own G σ H i s) (e1:σ'[i]? = σ[i]?) (e2:own' i = own i):SlOk K C G0 H0 own' G σ' H i s:=by
 cases s with
 | un=>trivial
 | sh p=>obtain ⟨v,e,r⟩:=h; exact ⟨v,e1.trans e,r⟩
 | bo p=>obtain ⟨v,e,r⟩:=h; exact ⟨v,e1.trans e,r⟩
 | ow p=>obtain ⟨a,e,o,r⟩:=h; exact ⟨a,e1.trans e,e2.trans o,r⟩
 | fz z kvs=>obtain ⟨e,o,r⟩:=h; exact ⟨e1.trans e,e2.trans o,r⟩
 | bz kvs=>obtain ⟨a,o,vs,e,r⟩:=h; exact ⟨a,o,vs,e1.trans e,r⟩
 | fl z ps=>obtain ⟨e,o,r⟩:=h; exact ⟨e1.trans e,e2.trans o,r⟩
theorem Sat.setS (S:Sat K C ω B G0 H0 own G σ H ρ) {i:Nat} {v:V} {p:PV} (r:Rep K C G v p):Sat K C ω B G0 H0 (Uz own i) G (σ.set i (some v)) H (ρ.set i (.sh p)):=by
 refine ⟨S.kb,S.gr,by rw [List.length_set,List.length_set,S.len],fun j k a h1 h2=>S.inj j k a (Os h1).2 (Os h2).2,fun j a h=>S.fr j a (Os h).2,fun j s h=>?_,S.ex⟩
 rcases Nf h with ⟨rfl,rfl,hl⟩ | ⟨z,h⟩
 ·exact ⟨v,Xc (by rw [S.len]; exact hl),r⟩
 ·exact (S.sl j s h).other (Xe z) (by unfold Uz; rw [if_neg z])
theorem Sat.setO (S:Sat K C ω B G0 H0 own G σ H ρ) {i:Nat} {a:Addr} {p:PV} (r:OwnA K C G H a p) (f0:H0 a = none) (fg:G a = none) (fo:∀ j,own j ≠ some a):Sat K C ω B G0 H0 (Qd own i a) G (σ.set i (some (.ref a))) H (ρ.set i (.ow p)):=by
 refine ⟨S.kb,S.gr,by rw [List.length_set,List.length_set,S.len],fun j k b h1 h2=>?_,fun j b h=>?_,fun j s h=>?_,S.ex⟩
 ·unfold Qd at h1 h2
  split at h1 <;> split at h2
  ·rename_i z1 z2; rw [z1,z2]
  ·cases h1; exact absurd h2 (fo k)
  ·cases h2; exact absurd h1 (fo j)
  ·exact S.inj j k b h1 h2
 ·unfold Qd at h
  split at h
  ·cases h; exact ⟨f0,fg,r.thing⟩
  ·exact S.fr j b h
 ·rcases Nf h with ⟨rfl,rfl,hl⟩ | ⟨z,h⟩
  ·exact ⟨a,Xc (by rw [S.len]; exact hl),by unfold Qd; rw [if_pos rfl],r⟩
  ·exact (S.sl j s h).other (Xe z) (by unfold Qd; rw [if_neg z])
theorem Sat.chg (S:Sat K C ω B G0 H0 own G σ H ρ) {i:Nat} {a:Addr} {p:PV} (e:own i = some a) (hi:σ[i]? = some (some (.ref a))) (c:Chg a H H') (r:OwnA K C G H' a p):Sat K C ω B G0 H0 own G σ H' (ρ.set i (.ow p)):=by
 obtain ⟨f0,fg,fh⟩:=S.fr i a e
 have ng:∀ b o,G b = some o->b ≠ a:=fun b o h z=>by subst z; rw [fg] at h; cases h
 refine ⟨S.kb,⟨S.gr.g,fun b o h=>c _ _ (S.gr.h _ _ h) (by intro z; subst z; rw [f0] at h; cases h),fun b o h=>c _ _ (S.gr.i _ _ h) (ng b o h),S.gr.n⟩,by rw [List.length_set,S.len],S.inj,fun j b h=>?_,fun j s h=>?_,S.ex⟩
 ·obtain ⟨q0,qg,o,qh,qt⟩:=S.fr j b h
  refine ⟨q0,qg,?_⟩
  by_cases z:b = a
  ·subst z; exact r.thing
  ·exact ⟨o,c _ _ qh z,qt⟩
 ·rcases Nf h with ⟨rfl,rfl,hl⟩ | ⟨z,h⟩
  ·exact ⟨a,hi,e,r⟩
  ·have q:=S.sl j s h
   cases s with
   | un=>trivial
   | sh p=>exact q
   | bo p=>exact q
   | bz kvs=>exact q
   | fz y kvs =>
    obtain ⟨e1,o,h1,h2⟩:=q
    exact ⟨e1,o,c _ _ h1 fun w=>z (S.inj j i a (by rw [<- w]; exact o) e),h2⟩
   | fl y ps =>
    obtain ⟨e1,o,h1,h2⟩:=q
    exact ⟨e1,o,c _ _ h1 fun w=>z (S.inj j i a (by rw [<- w]; exact o) e),h2⟩
   | ow p' =>
    obtain ⟨b,e1,o,r1⟩:=q
    have nb:b ≠ a:=fun w=>z (S.inj j i a (by rw [<- w]; exact o) e)
    refine ⟨b,e1,o,r1.mono (Same.refl _) ?_⟩
    cases w:H b with
    | none=>exact absurd w r1.here
    | some o=>exact c _ _ w nb
def Wn:Sl->Sl
 | .ow p=>.sh p
 | s=>s
def AiW (i:Nat) (ρ:Bj):Bj:=match ρ[i]? with
 | some s=>ρ.set i (Wn s)
 | none=>ρ
end
section
variable {K:PySem.W.Frag} {C:Addr} {ω:Om}
theorem EU.eb {t:TE} {u:UE} (h:EU K C ω t u):EB K C ω t u:=fun B G0 H0 own G σ H ρ P Q S hu k=>h B G0 H0 own G σ H ρ P Q S hu fun v p G' H' w r hp=>k v p G' H' w (.inl r) hp
theorem EF.eb {t:TE} {u:UE} (h:EF K C ω t u):EB K C ω t u:=fun B G0 H0 own G σ H ρ P Q S hu k=>h B G0 H0 own G σ H ρ P Q S hu fun a p G' H' w _ _ r hp=>k _ p G' H' w (.inr ⟨a,rfl,r⟩) hp
theorem AaP {G H G' H':Hp} {a:Addr} {p:PV} (w:Grow G H G' H') (n:H a = none) (g:G' a = none) (r:OwnA K C G' H' a p):∃ G'',Grow G H G'' H'/\Rep K C G'' (.ref a) p:=by
 obtain ⟨ob,hob⟩:∃ ob,H' a = some ob:=by
  cases e:H' a with
  | none=>exact absurd e r.here
  | some x=>exact ⟨x,rfl⟩
 have sg:Same G' (upd G' a ob):=Same.new g
 refine ⟨upd G' a ob,⟨w.g.trans sg,w.h,fun b u h=>?_,fun b u h1 t h2=>?_⟩,?_⟩
 ·by_cases z:b = a
  ·subst z; rw [Bq] at h; rw [hob]; exact h
  ·rw [Bi z] at h; exact w.i _ _ h
 ·rw [Bi (by intro z; subst z; rw [n] at h1; cases h1)]; exact w.n b u h1 t h2
 ·cases p <;> first | exact r.elim | skip
  ·obtain ⟨vs,h1,h2⟩:=r; rw [hob] at h1; cases h1; exact Rep.ofL Bq (h2.mono sg)
  ·obtain ⟨vs,h1,h2⟩:=r; rw [hob] at h1; cases h1; exact Rep.ofD Bq (KReps.mono h2 sg)
  ·obtain ⟨vs,h1,h2⟩:=r; rw [hob] at h1; cases h1; exact Rep.ofDt Bq (KReps.mono h2 sg)
theorem EF.eu {t:TE} {u:UE} (h:EF K C ω t u):EU K C ω t u:=fun B G0 H0 own G σ H ρ P Q S hu k=>h B G0 H0 own G σ H ρ P Q S hu fun a p G' H' w n g r hp =>
 let ⟨G'',w2,r2⟩:=AaP w n g r
 k _ p G'' H' w2 r2 hp
def Sl.val:Sl->Option PV
 | .un=>none
 | .sh p=>some p
 | .bo p=>some p
 | .ow p=>some p
 | .fz _ _=>none
 | .bz _=>none
 | .fl _ ps=>some (.lst ps)
def Agj (i:Nat):UE:=fun ρ P=>∃ s p,ρ[i]? = some s/\s.val = some p/\P p
def Ac9 (i:Nat):UE:=fun ρ P=>∃ p,ρ[i]? = some (.sh p)/\P p
theorem Bd {i:Nat}:EB K C ω (Fq i) (Agj i):=fun B G0 H0 own G σ H ρ P Q S ⟨s,p,h1,h2,h3⟩ k=>by
 have q:=S.sl i s h1
 have w:=Grow.refl S.gr.i
 cases s with
 | un=>cases h2
 | sh p'=>cases h2; obtain ⟨v,e,r⟩:=q; exact ⟨v,e,k v _ G H w (.inl r) h3⟩
 | bo p'=>cases h2; obtain ⟨v,e,r⟩:=q; exact ⟨v,e,k v _ G H w (r.grow S.gr) h3⟩
 | ow p'=>cases h2; obtain ⟨a,e,_,r⟩:=q; exact ⟨_,e,k _ _ G H w (.inr ⟨a,rfl,r⟩) h3⟩
 | fz _ _=>cases h2
 | bz _=>cases h2
 | fl z ps=>cases h2; obtain ⟨e,_,h1,r⟩:=q; exact ⟨_,e,k _ _ G H w (.inr ⟨z.1,rfl,OwnA.ofL h1 r⟩) h3⟩
theorem Lf {i:Nat}:EU K C ω (Fq i) (Ac9 i):=fun B G0 H0 own G σ H ρ P Q S ⟨p,h1,h3⟩ k=>by
 obtain ⟨v,e,r⟩:=S.sl i _ h1
 exact ⟨v,e,k v _ G H (Grow.refl S.gr.i) r h3⟩
def uC (p:PV):UE:=fun _ P=>P p
theorem Acv {v:V} {p:PV} (h:∀ G,Rep K C G v p):EU K C ω (tC v) (uC p):=fun B G0 H0 own G σ H ρ P Q S hu k=>k v p G H (Grow.refl S.gr.i) (h G) hu
theorem Bf {i:Int}:EU K C ω (tC (.int i)) (uC (.int i)):=Acv fun _=>.int i
theorem Sw {b:Bool}:EU K C ω (tC (.bl b)) (uC (.bl b)):=Acv fun _=>.bl b
theorem Ca {x:Str}:EU K C ω (tC (.str x)) (uC (.str x)):=Acv fun _=>.str x
theorem RepB.int {G H:Hp} {v:V} {i:Int} (h:RepB K C G H v (.int i)):v = .int i:=by
 rcases h with h | ⟨a,_,h⟩
 ·cases h; rfl
 ·exact h.elim
theorem RepB.bl {G H:Hp} {v:V} {b:Bool} (h:RepB K C G H v (.bl b)):v = .bl b:=by
 rcases h with h | ⟨a,_,h⟩
 ·cases h; rfl
 ·exact h.elim
theorem RepB.str {G H:Hp} {v:V} {b:Str} (h:RepB K C G H v (.str b)):v = .str b:=by
 rcases h with h | ⟨a,_,h⟩
 ·cases h; rfl
 ·exact h.elim
theorem RepB.lst {G H:Hp} {v:V} {ps:List PV} (i:Same G H) (h:RepB K C G H v (.lst ps)):∃ a vs,v = .ref a/\H a = some (.lst vs)/\Reps K C G vs ps:=by
 rcases h with h | ⟨a,e,vs,h1,h2⟩
 ·cases h with
  | lst e l q=>exact ⟨_,_,rfl,i _ _ e,l,q⟩
 ·exact ⟨a,vs,e,h1,h2⟩
theorem RepB.tup {G H:Hp} {v:V} {ps:List PV} (i:Same G H) (h:RepB K C G H v (.tup ps)):∃ a vs,v = .ref a/\H a = some (.tup vs)/\Reps K C G vs ps:=by
 rcases h with h | ⟨a,e,h⟩
 ·cases h with
  | tup e l q=>exact ⟨_,_,rfl,i _ _ e,l,q⟩
 ·exact h.elim
theorem RepB.scr {G H:Hp} {v:V} {ns:List Int} (i:Same G H) (h:RepB K C G H v (.scr ns)):∃ a,v = .ref a/\SqL K H a (ns.map V.int):=by
 rcases h with h | ⟨a,e,h⟩
 ·cases h with
  | scr e=>exact ⟨_,rfl,i.seq e⟩
 ·exact h.elim
theorem RepB.dk {G H:Hp} {v:V} {ps:List (Key × PV)} (i:Same G H) (h:RepB K C G H v (.dk ps)):∃ a kvs,v = .ref a/\H a = some (.dK kvs)/\LAt (KRep K C) G kvs ps:=by
 rcases h with h | ⟨a,e,vs,h1,h2⟩
 ·cases h with
  | dk e l hk q=>exact ⟨_,_,rfl,i _ _ e,l,fun i v p h1 h2=>⟨hk i v p h1 h2,q i v p h1 h2⟩⟩
 ·exact ⟨a,vs,e,h1,h2⟩
theorem RepB.dt {G H:Hp} {v:V} {ps:List (List Key × PV)} (i:Same G H) (h:RepB K C G H v (.dt ps)):∃ a kvs,v = .ref a/\H a = some (.dT kvs)/\LAt (KRep K C) G kvs ps:=by
 rcases h with h | ⟨a,e,vs,h1,h2⟩
 ·cases h with
  | dt e l hk q=>exact ⟨_,_,rfl,i _ _ e,l,fun i v p h1 h2=>⟨hk i v p h1 h2,q i v p h1 h2⟩⟩
 ·exact ⟨a,vs,e,h1,h2⟩
theorem two {ta tb:TE} {ua ub:UE} {r:R2} (ha:EB K C ω ta ua) (hb:EB K C ω tb ub) {B G0 H0:Hp} {own:Nat->Option Addr} {G:Hp} {σ:St} {H:Hp} {ρ:Bj} {Q:VK} {P:PV->PV->Prop} (S:Sat K C ω B G0 H0 own G σ H ρ)
  (hu:ua ρ fun p=>ub ρ fun q=>P p q) (k:∀ v w p q G' H',Grow G H G' H'->RepB K C G' H' v p->RepB K C G' H' w q->P p q->r v w H' Q):tOp r ta tb σ H Q :=
 ha B G0 H0 own G σ H ρ _ _ S hu fun v p G1 H1 w1 r1 h1=>hb B G0 H0 own G1 σ H1 ρ _ _ (S.grow w1) h1 fun w q G2 H2 w2 r2 h2=>k v w p q G2 H2 (w1.trans w2) (r1.grow w2) r2 h2
def bI0 (g:Int->Int->PV) (p q:PV) (P:PV->Prop):Prop:=∃ i j,p = .int i/\q = .int j/\P (g i j)
def uI0 (g:Int->Int->PV) (ua ub:UE):UE:=fun ρ P=>ua ρ fun p=>ub ρ fun q=>bI0 g p q P
def bI (c:Int->Int->Prop) (g:Int->Int->PV) (p q:PV) (P:PV->Prop):Prop:=∃ i j,p = .int i/\q = .int j/\c i j/\P (g i j)
def uI (c:Int->Int->Prop) (g:Int->Int->PV) (ua ub:UE):UE:=fun ρ P=>ua ρ fun p=>ub ρ fun q=>bI c g p q P
theorem Da {g:Int->Int->V} {g':Int->Int->PV} {ta tb:TE} {ua ub:UE} (hg:∀ G i j,Rep K C G (g i j) (g' i j)) (ha:EB K C ω ta ua) (hb:EB K C ω tb ub):EU K C ω (tOp (rI0 g) ta tb) (uI0 g' ua ub) :=
 fun B G0 H0 own G σ H ρ P Q S hu k=>two ha hb S hu fun v w p q G' H' gr r1 r2 ⟨i,j,e1,e2,h⟩=>by
  subst e1 e2
  exact ⟨i,j,r1.int,r2.int,k _ _ G' H' gr (hg G' i j) h⟩
theorem Dl {c:Int->Int->Prop} {g:Int->Int->V} {g':Int->Int->PV} {ta tb:TE} {ua ub:UE} (hg:∀ G i j,Rep K C G (g i j) (g' i j)) (ha:EB K C ω ta ua) (hb:EB K C ω tb ub):EU K C ω (tOp (rI c g) ta tb) (uI c g' ua ub) :=
 fun B G0 H0 own G σ H ρ P Q S hu k=>two ha hb S hu fun v w p q G' H' gr r1 r2 ⟨i,j,e1,e2,hc,h⟩=>by
  subst e1 e2
  exact ⟨i,j,r1.int,r2.int,hc,k _ _ G' H' gr (hg G' i j) h⟩
def bU (g:Int->PV) (p:PV) (P:PV->Prop):Prop:=∃ i,p = .int i/\P (g i)
def uU (g:Int->PV) (ua:UE):UE:=fun ρ P=>ua ρ fun p=>bU g p P
theorem AcB {g:Int->V} {g':Int->PV} {ta:TE} {ua:UE} (hg:∀ G i,Rep K C G (g i) (g' i)) (ha:EB K C ω ta ua):EU K C ω (tUn (rU g) ta) (uU g' ua) :=
 fun B G0 H0 own G σ H ρ P Q S hu k=>ha B G0 H0 own G σ H ρ _ _ S hu fun v p G' H' w r ⟨i,e,h⟩=>by
  subst e
  exact ⟨i,r.int,k _ _ G' H' w (hg G' i) h⟩
def Vl (neg:Bool) (p q:PV) (P:PV->Prop):Prop:=(∃ i j,p = .int i/\q = .int j/\P (.bl (if neg then !decide (i = j) else decide (i = j))))\/(∃ i j,p = .str i/\q = .str j/\P (.bl (if neg then !decide (i = j) else decide (i = j))))
def AcO (neg:Bool) (ua ub:UE):UE:=fun ρ P=>ua ρ fun p=>ub ρ fun q=>Vl neg p q P
theorem Re {ta tb:TE} {ua ub:UE} (ha:EB K C ω ta ua) (hb:EB K C ω tb ub):EU K C ω (tOp rEq ta tb) (AcO false ua ub) :=
 fun B G0 H0 own G σ H ρ P Q S hu k=>two ha hb S hu fun v w p q G' H' gr r1 r2 h=>by
  rcases h with ⟨i,j,e1,e2,h⟩ | ⟨i,j,e1,e2,h⟩
  ·subst e1 e2; rw [r1.int,r2.int]; exact AdO (k _ _ G' H' gr (.bl _) h)
  ·subst e1 e2; rw [r1.str,r2.str]; exact Adt (k _ _ G' H' gr (.bl _) h)
theorem Ut {ta tb:TE} {ua ub:UE} (ha:EB K C ω ta ua) (hb:EB K C ω tb ub):EU K C ω (tOp rNe ta tb) (AcO true ua ub) :=
 fun B G0 H0 own G σ H ρ P Q S hu k=>two ha hb S hu fun v w p q G' H' gr r1 r2 h=>by
  rcases h with ⟨i,j,e1,e2,h⟩ | ⟨i,j,e1,e2,h⟩
  ·subst e1 e2; rw [r1.int,r2.int]; exact AdA (k _ _ G' H' gr (.bl _) h)
  ·subst e1 e2; rw [r1.str,r2.str]; exact Ac8 (k _ _ G' H' gr (.bl _) h)
def bB (p:PV) (P:Bool->Prop):Prop:=∃ b,p = .bl b/\P b
def uB (ua:UE):UT:=fun ρ P=>ua ρ fun p=>bB p P
theorem Dw {ta:TE} {ua:UE} (ha:EB K C ω ta ua):TU K C ω (tB ta) (uB ua) :=
 fun B G0 H0 own G σ H ρ P Q S hu k=>ha B G0 H0 own G σ H ρ _ _ S hu fun v p G' H' w r ⟨b,e,h⟩=>by subst e; exact ⟨b,r.bl,k b G' H' w h⟩
theorem Nb {ta:TE} {ua:UE} (ha:EB K C ω ta ua):TU K C ω (Zo ta) (uB ua) :=
 fun B G0 H0 own G σ H ρ P Q S hu k=>ha B G0 H0 own G σ H ρ _ _ S hu fun v p G' H' w r ⟨b,e,h⟩=>by subst e; exact ⟨b,r.bl,k b G' H' w h⟩
def AfW (ua ub:UT):UT:=fun ρ P=>ua ρ fun b=>if b = true then ub ρ P else P false
def uOr (ua ub:UT):UT:=fun ρ P=>ua ρ fun b=>if b = true then P true else ub ρ P
def AfF (ua:UT):UT:=fun ρ P=>ua ρ fun b=>P (!b)
theorem Aa7 {ta tb:TT} {ua ub:UT} (ha:TU K C ω ta ua) (hb:TU K C ω tb ub):TU K C ω (Agg ta tb) (AfW ua ub) :=
 fun B G0 H0 own G σ H ρ P Q S hu k=>ha B G0 H0 own G σ H ρ _ _ S hu fun b G' H' w h=>by
  cases b with
  | true=>exact Ja (hb B G0 H0 own G' σ H' ρ P Q (S.grow w) (by simpa using h) fun c G2 H2 w2 h2=>k c G2 H2 (w.trans w2) h2)
  | false=>exact Gz (k _ G' H' w (by simpa using h))
theorem Jm {ta tb:TT} {ua ub:UT} (ha:TU K C ω ta ua) (hb:TU K C ω tb ub):TU K C ω (tOr ta tb) (uOr ua ub) :=
 fun B G0 H0 own G σ H ρ P Q S hu k=>ha B G0 H0 own G σ H ρ _ _ S hu fun b G' H' w h=>by
  cases b with
  | false=>exact Gz (hb B G0 H0 own G' σ H' ρ P Q (S.grow w) (by simpa using h) fun c G2 H2 w2 h2=>k c G2 H2 (w.trans w2) h2)
  | true=>exact Ja (k _ G' H' w (by simpa using h))
theorem Qr {ta:TT} {ua:UT} (ha:TU K C ω ta ua):TU K C ω (Acz ta) (AfF ua) :=
 fun B G0 H0 own G σ H ρ P Q S hu k=>ha B G0 H0 own G σ H ρ _ _ S hu fun b G' H' w h=>k _ G' H' w h
def AdS (ua ub:UE):UE:=fun ρ P=>ua ρ fun p=>bB p fun b=>if b = true then ub ρ P else P (.bl false)
def Ad0 (ua:UE):UE:=fun ρ P=>ua ρ fun p=>bB p fun b=>P (.bl (!b))
theorem Aeq {ta tb:TE} {ua ub:UE} (ha:EB K C ω ta ua) (hb:EU K C ω tb ub):EU K C ω (Zy ta tb) (AdS ua ub) :=
 fun B G0 H0 own G σ H ρ P Q S hu k=>ha B G0 H0 own G σ H ρ _ _ S hu fun v p G' H' w r ⟨b,e,h⟩=>by
  subst e
  refine ⟨b,r.bl,?_⟩
  cases b with
  | true=>exact Ja (hb B G0 H0 own G' σ H' ρ P Q (S.grow w) (by simpa using h) fun c p2 G2 H2 w2 h2=>k c p2 G2 H2 (w.trans w2) h2)
  | false=>exact Gz (k _ _ G' H' w (.bl _) (by simpa using h))
theorem Ael {ta:TE} {ua:UE} (ha:EB K C ω ta ua):EU K C ω (Zb ta) (Ad0 ua) :=
 fun B G0 H0 own G σ H ρ P Q S hu k=>ha B G0 H0 own G σ H ρ _ _ S hu fun v p G' H' w r ⟨b,e,h⟩=>by subst e; exact ⟨b,r.bl,k _ _ G' H' w (.bl _) h⟩
end
section
variable {K:PySem.W.Frag} {C:Addr} {ω:Om}
theorem ArgsOk.len {G H:Hp}:∀ {ms:List Bool} {vs:List V} {ps:List PV},ArgsOk K C G H ms vs ps->vs.length = ms.length/\ps.length = ms.length
 | [],[],[],_=>⟨rfl,rfl⟩
 | true :: _,_ :: _,_ :: _,h=>⟨congrArg Nat.succ h.2.len.1,congrArg Nat.succ h.2.len.2⟩
 | false :: _,_ :: _,_ :: _,h=>⟨congrArg Nat.succ h.2.len.1,congrArg Nat.succ h.2.len.2⟩
 | [],_ :: _,_,h=>h.elim
 | [],[],_ :: _,h=>h.elim
 | true :: _,[],_,h=>by cases h
 | false :: _,[],_,h=>by cases h
 | true :: _,_ :: _,[],h=>by cases h
 | false :: _,_ :: _,[],h=>by cases h
theorem ArgsOk.reps {G H:Hp}:∀ {n:Nat} {vs:List V} {ps:List PV},ArgsOk K C G H (List.replicate n true) vs ps->Reps K C G vs ps
 | 0,[],[],_=>LAt.nil
 | 0,_ :: _,_,h=>by cases h
 | 0,[],_ :: _,h=>by cases h
 | _ + 1,[],_,h=>by cases h
 | _ + 1,_ :: _,[],h=>by cases h
 | n + 1,v :: vs,p :: ps,h=>by
  have h1:Rep K C G v p:=h.1
  have h2:Reps K C G vs ps:=ArgsOk.reps (n:=n) h.2
  exact ⟨congrArg Nat.succ h2.1,fun i x y e1 e2=>by
   cases i with
   | zero=>cases e1; cases e2; exact h1
   | succ i=>exact h2.2 i x y (by simpa using e1) (by simpa using e2)⟩
def Agv:UA:=fun _ P=>P []
def Yn (ua:UE) (ur:UA):UA:=fun ρ P=>ua ρ fun p=>ur ρ fun ps=>P (p :: ps)
theorem Bk:AU K C ω [] Sa Agv:=fun B G0 H0 own G σ H ρ P Q S hu k=>k [] [] G H (Grow.refl S.gr.i) trivial hu
theorem Bn {ms:List Bool} {ta:TE} {tr:TA} {ua:UE} {ur:UA} (ha:EU K C ω ta ua) (hr:AU K C ω ms tr ur):AU K C ω (true :: ms) (Fy ta tr) (Yn ua ur) :=
 fun B G0 H0 own G σ H ρ P Q S hu k=>ha B G0 H0 own G σ H ρ _ _ S hu fun v p G1 H1 w1 r1 h1=>hr B G0 H0 own G1 σ H1 ρ _ _ (S.grow w1) h1 fun vs ps G2 H2 w2 r2 h2=>k (v :: vs) (p :: ps) G2 H2 (w1.trans w2) ⟨r1.mono w2.g,r2⟩ h2
theorem Bu {ms:List Bool} {ta:TE} {tr:TA} {ua:UE} {ur:UA} (ha:EB K C ω ta ua) (hr:AU K C ω ms tr ur):AU K C ω (false :: ms) (Fy ta tr) (Yn ua ur) :=
 fun B G0 H0 own G σ H ρ P Q S hu k=>ha B G0 H0 own G σ H ρ _ _ S hu fun v p G1 H1 w1 r1 h1=>hr B G0 H0 own G1 σ H1 ρ _ _ (S.grow w1) h1 fun vs ps G2 H2 w2 r2 h2=>k (v :: vs) (p :: ps) G2 H2 (w1.trans w2) ⟨r1.grow w2,r2⟩ h2
def AgJ (u:UA):UE:=fun ρ P=>u ρ fun ps=>P (.lst ps)
def Agc (u:UA):UE:=fun ρ P=>u ρ fun ps=>P (.tup ps)
theorem Cv (n:Nat) {t:TA} {u:UA} (h:AU K C ω (List.replicate n true) t u) (hn:n <= 1000:=by decide):EF K C ω (Yt t) (AgJ u) :=
 fun B G0 H0 own G σ H ρ P Q S hu k=>h B G0 H0 own G σ H ρ _ _ S hu fun vs ps G1 H1 w1 r1 h1=>by
  have hl:vs.length = n:=by rw [r1.len.1,List.length_replicate]
  refine ⟨Nat.le_of_lt (Qa (by omega)),fun a H2 ha s2 e2=>?_⟩
  have w2:=w1.trans (Grow.own w1.i s2)
  exact k a _ G1 H2 w2 (w1.h.free ha) (w1.i.free ha) (OwnA.ofL e2 r1.reps) h1
theorem Du (n:Nat) {t:TA} {u:UA} (h:AU K C ω (List.replicate n true) t u) (hn:n <= 1000:=by decide):EU K C ω (Zl t) (Agc u) :=
 fun B G0 H0 own G σ H ρ P Q S hu k=>h B G0 H0 own G σ H ρ _ _ S hu fun vs ps G1 H1 w1 r1 h1=>by
  have hl:vs.length = n:=by rw [r1.len.1,List.length_replicate]
  refine ⟨Nat.le_of_lt (Qa (by omega)),fun a H2 ha s2 e2=>?_⟩
  have w2:=Grow.put w1.i ha s2 e2
  exact k _ _ _ H2 (w1.trans w2) (Rep.ofT Bq (r1.reps.mono w2.g)) h1
theorem LAt.get' {β α:Type} {R:Hp->β->α->Prop} {H:Hp} {xs:List β} {ys:List α} (h:LAt R H xs ys) {i:Nat} {y:α} (e:ys[i]? = some y):∃ x,xs[i]? = some x/\R H x y:=by
 have hi:i < ys.length:=(List.getElem?_eq_some_iff.mp e).1
 have hx:i < xs.length:=by rw [h.1]; exact hi
 exact ⟨xs[i],List.getElem?_eq_getElem hx,h.2 i _ y (List.getElem?_eq_getElem hx) e⟩
theorem LAt.atI {β α:Type} {R:Hp->β->α->Prop} {H:Hp} {xs:List β} {ys:List α} (h:LAt R H xs ys) {i:Int} {y:α} (e:L2.atI ys i = some y):∃ x,L2.atI xs i = some x/\R H x y:=by
 unfold L2.atI at e ⊢
 rw [h.1]
 cases z:ixN ys.length i with
 | none=>rw [z] at e; cases e
 | some j=>rw [z] at e; exact h.get' e
theorem Fp {G:Hp} (ns:List Int):Reps K C G (ns.map V.int) (ns.map PV.int) :=
 ⟨by simp,fun i v p h1 h2=>by
  rw [List.getElem?_map] at h1 h2
  cases e:ns[i]? with
  | none=>rw [e] at h1; cases h1
  | some n=>rw [e] at h1 h2; cases h1; cases h2; exact .int n⟩
def Rr (p q:PV) (P:PV->Prop):Prop:=∃ i ps x,q = .int i/\(p = .lst ps\/∃ ns,p = .scr ns/\ps = ns.map .int)/\atI ps i = some x/\P x
def AgG (ua ub:UE):UE:=fun ρ P=>ua ρ fun p=>ub ρ fun q=>Rr p q P
theorem Do {ta tb:TE} {ua ub:UE} (ha:EB K C ω ta ua) (hb:EB K C ω tb ub):EU K C ω (tOp (Yk K) ta tb) (AgG ua ub) :=
 fun B G0 H0 own G σ H ρ P Q S hu k=>two ha hb S hu fun v w p q G' H' gr r1 r2 ⟨i,ps,x,e1,e2,e3,h⟩=>by
  subst e1
  rcases e2 with e2 | ⟨ns,e2,e4⟩
  ·subst e2
   obtain ⟨a,vs,rfl,ea,l⟩:=r1.lst gr.i
   obtain ⟨y,hy,ry⟩:=l.atI e3
   exact ⟨a,vs,i,y,rfl,r2.int,SqL.of ea,hy,k y x G' H' gr ry h⟩
  ·subst e2 e4
   obtain ⟨a,rfl,ea⟩:=r1.scr gr.i
   obtain ⟨y,hy,ry⟩:=(Fp (K:=K) (C:=C) (G:=G') ns).atI e3
   exact ⟨a,_,i,y,rfl,r2.int,ea,hy,k y x G' H' gr ry h⟩
def Zx (p q:PV) (P:PV->Prop):Prop:=∃ i ps x,q = .int i/\p = .tup ps/\atI ps i = some x/\P x
def Agq (ua ub:UE):UE:=fun ρ P=>ua ρ fun p=>ub ρ fun q=>Zx p q P
theorem Fe {ta tb:TE} {ua ub:UE} (ha:EB K C ω ta ua) (hb:EB K C ω tb ub):EU K C ω (tOp (Yv K) ta tb) (Agq ua ub) :=
 fun B G0 H0 own G σ H ρ P Q S hu k=>two ha hb S hu fun v w p q G' H' gr r1 r2 ⟨i,ps,x,e1,e2,e3,h⟩=>by
  subst e1 e2
  obtain ⟨a,vs,rfl,ea,l⟩:=r1.tup gr.i
  obtain ⟨y,hy,ry⟩:=l.atI e3
  exact ⟨a,vs,i,y,rfl,r2.int,SqT.of ea,hy,k y x G' H' gr ry h⟩
abbrev UO:=Bj->(Option Int->Prop)->Prop
def OU (K:PySem.W.Frag) (C:Addr) (ω:Om) (t:TO) (u:UO):Prop:=∀ (B G0 H0:Hp) (own:Nat->Option Addr) (G:Hp) (σ:St) (H:Hp) (ρ:Bj) (P:Option Int->Prop) (Q:Option Int->Hp->Prop),Sat K C ω B G0 H0 own G σ H ρ->u ρ P->(∀ o G' H',Grow G H G' H'->P o->Q o H')->t σ H Q
def Zm (p:PV) (P:Option Int->Prop):Prop:=∃ i,p = .int i/\P (some i)
def Adg (ua:UE):UO:=fun ρ P=>ua ρ fun p=>Zm p P
theorem Yd {ta:TE} {ua:UE} (ha:EB K C ω ta ua):OU K C ω (Adn ta) (Adg ua) :=
 fun B G0 H0 own G σ H ρ P Q S hu k=>ha B G0 H0 own G σ H ρ _ _ S hu fun v p G' H' w r ⟨i,e,h⟩=>by subst e; exact ⟨i,r.int,k _ G' H' w h⟩
def Nu {α:Type} (xs:List α) (lo hi:Option Int):List α:=(xs.drop (HT.sIx xs.length 0 lo)).take (HT.sIx xs.length xs.length hi - HT.sIx xs.length 0 lo)
theorem AcI {α β:Type} (f:α->β) (xs:List α) (lo hi:Option Int):Nu (xs.map f) lo hi = (Nu xs lo hi).map f:=by
 unfold Nu; rw [List.length_map,List.map_take,List.map_drop]
theorem Reps.cut {G:Hp} {vs:List V} {ps:List PV} (h:Reps K C G vs ps) (lo hi:Option Int):Reps K C G (Rw vs lo hi) (Nu ps lo hi):=by
 unfold Rw Nu
 rw [h.1]
 exact (LAt.drop h _).take _
def Acp (p:PV) (lo hi:Option Int) (P:PV->Prop):Prop:=∃ ps,(p = .lst ps\/∃ ns,p = .scr ns/\ps = ns.map .int)/\P (.lst (Nu ps lo hi))
def Agk (ua:UE) (ul uh:UO):UE:=fun ρ P=>ua ρ fun p=>ul ρ fun lo=>uh ρ fun hi=>Acp p lo hi P
theorem Agm {ta:TE} {tl th:TO} {ua:UE} {ul uh:UO} (ha:EB K C ω ta ua) (hl:OU K C ω tl ul) (hh:OU K C ω th uh):EF K C ω (tSl (AdQ K) ta tl th) (Agk ua ul uh) :=
 fun B G0 H0 own G σ H ρ P Q S hu k=>ha B G0 H0 own G σ H ρ _ _ S hu fun v p G1 H1 w1 r1 h1=>hl B G0 H0 own G1 σ H1 ρ _ _ (S.grow w1) h1 fun lo G2 H2 w2 h2=>hh B G0 H0 own G2 σ H2 ρ _ _ ((S.grow w1).grow w2) h2 fun hi G3 H3 w3 h3=>by
  have w:=(w1.trans w2).trans w3
  have r:=(r1.grow w2).grow w3
  obtain ⟨ps,e,h⟩:=h3
  rcases e with e | ⟨ns,e,e4⟩
  ·subst e
   obtain ⟨a,vs,rfl,ea,l⟩:=r.lst w3.i
   exact ⟨a,vs,rfl,SqL.of ea,fun b H4 hb s4 e4=>k b _ G3 H4 (w.trans (Grow.own w3.i s4)) (w.h.free hb) (w3.i.free hb) (OwnA.ofL e4 (l.cut lo hi)) h⟩
  ·subst e e4
   obtain ⟨a,rfl,ea⟩:=r.scr w3.i
   exact ⟨a,_,rfl,ea,fun b H4 hb s4 e4=>k b _ G3 H4 (w.trans (Grow.own w3.i s4)) (w.h.free hb) (w3.i.free hb) (OwnA.ofL e4 ((Fp ns).cut lo hi)) h⟩
theorem Acu {G:Hp} {vs ws:List V} {ps qs:List PV} (h:Reps K C G vs ps) (h':Reps K C G ws qs):Reps K C G (vs ++ ws) (ps ++ qs):=LAt.append h h'
def Aca (p q:PV) (P:PV->Prop):Prop:=∃ ps qs,p = .lst ps/\q = .lst qs/\ps.length + qs.length <= 100000/\P (.lst (ps ++ qs))
def AfE (ua ub:UE):UE:=fun ρ P=>ua ρ fun p=>ub ρ fun q=>Aca p q P
theorem Aai {n:Nat} (h:n <= 100000):n < sizeLine:=Nat.lt_of_le_of_lt h (by decide)
theorem Vh {ta tb:TE} {ua ub:UE} (ha:EB K C ω ta ua) (hb:EB K C ω tb ub):EF K C ω (tOp Adf ta tb) (AfE ua ub) :=
 fun B G0 H0 own G σ H ρ P Q S hu k=>two ha hb S hu fun v w p q G' H' gr r1 r2 ⟨ps,qs,e1,e2,hl,h⟩=>by
  subst e1 e2
  obtain ⟨a,vs,rfl,ea,l⟩:=r1.lst gr.i
  obtain ⟨b,ws,rfl,eb,l2⟩:=r2.lst gr.i
  exact ⟨a,b,vs,ws,rfl,rfl,ea,eb,Nat.le_of_lt (Aai (by rw [l.1,l2.1]; exact hl)),fun c H4 hc s4 e4=>k c _ G' H4 (gr.trans (Grow.own gr.i s4)) (gr.h.free hc) (gr.i.free hc) (OwnA.ofL e4 (Acu l l2)) h⟩
def uCB (ur:List PV->(PV->Prop)->Prop) (u:UA):UE:=fun ρ P=>u ρ fun ps=>ur ps P
theorem Ads {ms:List Bool} {r:List V->Hp->VK->Prop} {ur:List PV->(PV->Prop)->Prop} {t:TA} {u:UA}
  (hr:∀ G H vs ps P Q,Same G H->ArgsOk K C G H ms vs ps->ur ps P->(∀ v p,Rep K C G v p->P p->Q v H)->r vs H Q) (ha:AU K C ω ms t u):EU K C ω (tCB r t) (uCB ur u) :=
 fun B G0 H0 own G σ H ρ P Q S hu k=>ha B G0 H0 own G σ H ρ _ _ S hu fun vs ps G1 H1 w1 r1 h1=>hr G1 H1 vs ps P Q w1.i r1 h1 fun v p rv hp=>k v p G1 H1 w1 rv hp
theorem Gv {G H:Hp} {m:Bool} {vs:List V} {ps:List PV} (h:ArgsOk K C G H [m] vs ps):∃ v p,vs = [v]/\ps = [p]/\RepB K C G H v p:=by
 match vs,ps,m,h with
 | [v],[p],true,h=>exact ⟨v,p,rfl,rfl,.inl h.1⟩
 | [v],[p],false,h=>exact ⟨v,p,rfl,rfl,h.1⟩
 | [],_,true,h=>cases h
 | [],_,false,h=>cases h
 | _ :: _,[],true,h=>cases h
 | _ :: _,[],false,h=>cases h
 | _ :: _ :: _,[_],true,h=>cases h.2
 | _ :: _ :: _,[_],false,h=>cases h.2
 | [_],_ :: _ :: _,true,h=>cases h.2
 | [_],_ :: _ :: _,false,h=>cases h.2
 | _ :: _ :: _,_ :: _ :: _,true,h=>cases h.2
 | _ :: _ :: _,_ :: _ :: _,false,h=>cases h.2
theorem Sr {G H:Hp} {m n:Bool} {vs:List V} {ps:List PV} (h:ArgsOk K C G H [m,n] vs ps):∃ v w p q,vs = [v,w]/\ps = [p,q]/\RepB K C G H v p/\RepB K C G H w q:=by
 match vs,ps,m,h with
 | v :: vs,p :: ps,true,h=>obtain ⟨w,q,rfl,rfl,r⟩:=Gv h.2; exact ⟨v,w,p,q,rfl,rfl,.inl h.1,r⟩
 | v :: vs,p :: ps,false,h=>obtain ⟨w,q,rfl,rfl,r⟩:=Gv h.2; exact ⟨v,w,p,q,rfl,rfl,h.1,r⟩
 | [],_,true,h=>cases h
 | [],_,false,h=>cases h
 | _ :: _,[],true,h=>cases h
 | _ :: _,[],false,h=>cases h
def Uv (ps:List PV) (P:PV->Prop):Prop:=∃ n:Nat,(ps = [.scr []]/\n = 0\/(∃ xs,ps = [.lst xs]/\n = xs.length)\/(∃ xs,ps = [.tup xs]/\n = xs.length)\/∃ ns,ps = [.scr ns]/\n = ns.length)/\P (.int n)
theorem Gi {m:Bool} {t:TA} {u:UA} (ha:AU K C ω [m] t u):EU K C ω (tCB (fun xs H Q=>∃ p ys,xs = [.ref p]/\(SqL K H p ys\/SqT K H p ys)/\Q (.int ys.length) H) t) (uCB Uv u) :=
 Ads (fun G H vs ps P Q i ok h k=>by
  obtain ⟨v,p,rfl,rfl,r⟩:=Gv ok
  obtain ⟨n,h1,h2⟩:=h
  rcases h1 with ⟨e,rfl⟩ | ⟨xs,e,rfl⟩ | ⟨xs,e,rfl⟩ | ⟨ns,e,rfl⟩
  ·cases e
   obtain ⟨a,rfl,ea⟩:=r.scr i
   exact ⟨a,_,rfl,.inl ea,k _ _ (.int _) h2⟩
  ·cases e
   obtain ⟨a,vs,rfl,ea,l⟩:=r.lst i
   exact ⟨a,vs,rfl,.inl (SqL.of ea),by rw [l.1]; exact k _ _ (.int _) h2⟩
  ·cases e
   obtain ⟨a,vs,rfl,ea,l⟩:=r.tup i
   exact ⟨a,vs,rfl,.inr (SqT.of ea),by rw [l.1]; exact k _ _ (.int _) h2⟩
  ·cases e
   obtain ⟨a,rfl,ea⟩:=r.scr i
   exact ⟨a,_,rfl,.inl ea,by rw [List.length_map]; exact k _ _ (.int _) h2⟩) ha
def AdW (ps:List PV) (P:PV->Prop):Prop:=(∃ i:Int,ps = [.int i]/\P (.int i))\/∃ b:Bool,ps = [.bl b]/\P (.int (if b then 1 else 0))
theorem AeF {m:Bool} {t:TA} {u:UA} (ha:AU K C ω [m] t u):EU K C ω (tCB (fun xs H Q=>(∃ i,xs = [.int i]/\Q (.int i) H)\/∃ k,xs = [.bl k]/\Q (.int (if k then 1 else 0)) H) t) (uCB AdW u) :=
 Ads (fun G H vs ps P Q i ok h k=>by
  obtain ⟨v,p,rfl,rfl,r⟩:=Gv ok
  rcases h with ⟨x,e,h⟩ | ⟨x,e,h⟩
  ·cases e; exact .inl ⟨x,by rw [r.int],k _ _ (.int _) h⟩
  ·cases e; exact .inr ⟨x,by rw [r.bl],k _ _ (.int _) h⟩) ha
def Aam (ps:List PV) (P:PV->Prop):Prop:=∃ xs,(ps = [.lst xs]\/ps = [.tup xs]\/∃ ns,ps = [.scr ns]/\xs = ns.map .int)/\P (.lst xs)
theorem Yb {m:Bool} {t:TA} {u:UA} (ha:AU K C ω [m] t u):EF K C ω (tCB (fun xs H Q=>∃ p ys,xs = [.ref p]/\(SqL K H p ys\/SqT K H p ys)/\∀ l H',H l = none->Same H H'->H' l = some (.lst ys)->Q (.ref l) H') t) (uCB Aam u) :=
 fun B G0 H0 own G σ H ρ P Q S hu k=>ha B G0 H0 own G σ H ρ _ _ S hu fun vs ps G1 H1 w1 r1 h1=>by
  obtain ⟨v,p,rfl,rfl,r⟩:=Gv r1
  obtain ⟨xs,h1,h2⟩:=h1
  rcases h1 with e | e | ⟨ns,e,rfl⟩
  ·cases e
   obtain ⟨a,vs,rfl,ea,l⟩:=r.lst w1.i
   exact ⟨a,vs,rfl,.inl (SqL.of ea),fun b H4 hb s4 e4=>k b _ G1 H4 (w1.trans (Grow.own w1.i s4)) (w1.h.free hb) (w1.i.free hb) (OwnA.ofL e4 l) h2⟩
  ·cases e
   obtain ⟨a,vs,rfl,ea,l⟩:=r.tup w1.i
   exact ⟨a,vs,rfl,.inr (SqT.of ea),fun b H4 hb s4 e4=>k b _ G1 H4 (w1.trans (Grow.own w1.i s4)) (w1.h.free hb) (w1.i.free hb) (OwnA.ofL e4 l) h2⟩
  ·cases e
   obtain ⟨a,rfl,ea⟩:=r.scr w1.i
   exact ⟨a,_,rfl,.inl ea,fun b H4 hb s4 e4=>k b _ G1 H4 (w1.trans (Grow.own w1.i s4)) (w1.h.free hb) (w1.i.free hb) (OwnA.ofL e4 (Fp ns)) h2⟩
end
section
variable {K:PySem.W.Frag} {C:Addr} {ω:Om} {rm:Rm}
def Adq:US:=fun d ρ=>d.nx ρ
def Acn (u w:US):US:=fun d ρ=>u { d with nx:=w d } ρ
theorem Ds:SU K C ω rm Aah Adq:=fun B G0 H0 own G σ H ρ D d S F h=>F.nx own G σ H ρ S h
theorem Bw {t t':TS} {u u':US} (h:SU K C ω rm t u) (h':SU K C ω rm t' u'):SU K C ω rm (AbZ t t') (Acn u u'):=fun B G0 H0 own G σ H ρ D d S F hu =>
 h B G0 H0 own G σ H ρ { D with nx:=t' D } { d with nx:=u' d } S ⟨fun own' G' σ' H' ρ' S' q=>h' B G0 H0 own' G' σ' H' ρ' D d S' F q,F.rt,F.bk,F.ct⟩ hu
def Afu:US:=fun _ _=>False
theorem Acl:SU K C ω rm AaE Afu:=fun B G0 H0 own G σ H ρ D d S F h=>h.elim
def AdI (ua:UE):US:=fun d ρ=>ua ρ fun _=>d.nx ρ
theorem AeT {ta:TE} {ua:UE} (ha:EB K C ω ta ua):SU K C ω rm (Si ta) (AdI ua):=fun B G0 H0 own G σ H ρ D d S F hu =>
 ha B G0 H0 own G σ H ρ _ _ S hu fun v p G' H' w _ h=>F.nx own G' σ H' ρ (S.grow w) h
def AcL (ua:UE):US:=fun d ρ=>ua ρ d.rt
theorem Dj {ta:TE} {ua:UE} (ha:EU K C ω ta ua):SU K C ω .sh (Vf ta) (AcL ua):=fun B G0 H0 own G σ H ρ D d S F hu =>
 ha B G0 H0 own G σ H ρ _ _ S hu fun v p G' H' w r h=>F.rt G' H' v p (S.gr.trans w) r h
theorem Rl {ta:TE} {ua:UE} (ha:EF K C ω ta ua):SU K C ω .fr (Vf ta) (AcL ua):=fun B G0 H0 own G σ H ρ D d S F hu =>
 ha B G0 H0 own G σ H ρ _ _ S hu fun a p G' H' w n g r h=>F.rt G' H' _ p (S.gr.trans w) ⟨a,rfl,S.gr.h.free n,g,r⟩ h
def Ac1 (i:Nat):US:=fun d ρ=>∃ p,ρ[i]? = some (.ow p)/\d.rt p
theorem Tn {i:Nat}:SU K C ω .fr (Vf (Fq i)) (Ac1 i):=fun B G0 H0 own G σ H ρ D d S F ⟨p,e,h⟩=>by
 obtain ⟨a,e1,o,r⟩:=S.sl i _ e
 obtain ⟨f0,fg,_⟩:=S.fr i a o
 exact ⟨_,e1,F.rt G H _ p S.gr ⟨a,rfl,f0,fg,r⟩ h⟩
def Ag1 (uc:UT) (u w:US):US:=fun d ρ=>uc ρ fun b=>if b = true then u d ρ else w d ρ
theorem Fs {tc:TT} {t t':TS} {uc:UT} {u u':US} (hc:TU K C ω tc uc) (h:SU K C ω rm t u) (h':SU K C ω rm t' u'):SU K C ω rm (Act tc t t') (Ag1 uc u u'):=fun B G0 H0 own G σ H ρ D d S F hu =>
 hc B G0 H0 own G σ H ρ _ _ S hu fun b G' H' w q=>by
  cases b with
  | true=>exact Ja (h B G0 H0 own G' σ H' ρ D d (S.grow w) F (by simpa using q))
  | false=>exact Gz (h' B G0 H0 own G' σ H' ρ D d (S.grow w) F (by simpa using q))
def AgX (i:Nat) (ua:UE):US:=fun d ρ=>ua ρ fun p=>d.nx (ρ.set i (.sh p))
theorem Cr {i:Nat} {ta:TE} {ua:UE} (ha:EU K C ω ta ua):SU K C ω rm (Tl ta (Jd i)) (AgX i ua):=fun B G0 H0 own G σ H ρ D d S F hu =>
 ha B G0 H0 own G σ H ρ _ _ S hu fun v p G' H' w r h=>F.nx _ G' _ H' _ ((S.grow w).setS r) h
def Ad3 (i:Nat) (ua:UE):US:=fun d ρ=>ua ρ fun p=>d.nx (ρ.set i (.ow p))
theorem Fr {i:Nat} {ta:TE} {ua:UE} (ha:EF K C ω ta ua):SU K C ω rm (Tl ta (Jd i)) (Ad3 i ua):=fun B G0 H0 own G σ H ρ D d S F hu =>
 ha B G0 H0 own G σ H ρ _ _ S hu fun a p G' H' w n g r h=>F.nx _ G' _ H' _ ((S.grow w).setO r (S.gr.h.free n) g fun j z=>(let ⟨_,_,o,ho,_⟩:=S.fr j a z; by rw [n] at ho; cases ho)) h
def Aax (i:Nat):PV->Bj->(Bj->Prop)->Prop:=fun p ρ P=>P (ρ.set i (.sh p))
theorem Vo {α:Type}:∀ {l:List α} {i top:Nat} {x:α},i < top->(l.set i x).drop top = l.drop top
 | [],_,_,_,_=>rfl
 | _ :: _,_,0,_,h=>by omega
 | _ :: _,0,_ + 1,_,_=>rfl
 | _ :: l,i + 1,t + 1,x,h=>Vo (l:=l) (i:=i) (top:=t) (by omega)
theorem Dx {top i:Nat} (hi:i < top:=by decide):GU K C ω top (Jd i) (Aax i):=fun B G0 H0 own G σ H ρ v p P R S r h k=>k _ _ _ (S.setS r) (Vo hi) h
def AbH:List PV->Bj->(Bj->Prop)->Prop:=fun ps ρ P=>ps = []/\P ρ
def Xw (u:PV->Bj->(Bj->Prop)->Prop) (us:List PV->Bj->(Bj->Prop)->Prop):List PV->Bj->(Bj->Prop)->Prop:=fun ps ρ P=>∃ p r,ps = p :: r/\u p ρ fun ρ'=>us r ρ' P
theorem AeE {top:Nat}:GsU K C ω top Ach AbH:=fun B G0 H0 own G σ H ρ vs ps P R S r ⟨e,h⟩ k=>by
 subst e
 exact ⟨List.eq_nil_of_length_eq_zero r.1,k _ _ _ S rfl h⟩
theorem Sd {top:Nat} {g:TG} {gs:TGs} {u:PV->Bj->(Bj->Prop)->Prop} {us:List PV->Bj->(Bj->Prop)->Prop} (hg:GU K C ω top g u) (hs:GsU K C ω top gs us):GsU K C ω top (Zc g gs) (Xw u us):=fun B G0 H0 own G σ H ρ vs ps P R S r ⟨p,q,e,h⟩ k=>by
 subst e
 match vs,r with
 | [],r=>have:=r.1; simp at this
 | v :: vs,r =>
  obtain ⟨r1,r2⟩:=r.uncons
  exact ⟨v,vs,rfl,hg B G0 H0 own G σ H ρ v p _ _ S r1 h fun own' σ' ρ' S' dr h'=>hs B G0 H0 own' G σ' H ρ' vs q P R S' r2 h' fun own2 σ2 ρ2 S2 dr2 h2=>k own2 σ2 ρ2 S2 (dr2.trans dr) h2⟩
def Ada (n:Nat) (us:List PV->Bj->(Bj->Prop)->Prop):PV->Bj->(Bj->Prop)->Prop:=fun p ρ P=>∃ ps,p = .tup ps/\ps.length = n/\us ps ρ P
theorem Aft {top n:Nat} {gs:TGs} {us:List PV->Bj->(Bj->Prop)->Prop} (hs:GsU K C ω top gs us):GU K C ω top (Wm K n gs) (Ada n us):=fun B G0 H0 own G σ H ρ v p P R S r ⟨ps,e,hl,h⟩ k=>by
 subst e
 cases r with
 | tup e l q=>exact ⟨_,_,rfl,SqT.of (S.gr.i _ _ e),by rw [l]; exact hl,hs B G0 H0 own G σ H ρ _ ps P R S ⟨l,q⟩ h k⟩
theorem Um {G:Hp} {vs:List V} {ps:List PV} {v:V} {p:PV} (h:Reps K C G vs ps) (r:Rep K C G v p):Reps K C G (vs ++ [v]) (ps ++ [p]):=LAt.snoc h r
theorem Sat.list {B G0 H0 G H:Hp} {own:Nat->Option Addr} {σ:St} {ρ:Bj} {i:Nat} {ps:List PV} (S:Sat K C ω B G0 H0 own G σ H ρ) (e:ρ[i]? = some (.ow (.lst ps))):∃ a vs,σ[i]? = some (some (.ref a))/\own i = some a/\H a = some (.lst vs)/\Reps K C G vs ps:=by
 obtain ⟨a,e1,o,vs,h1,h2⟩:=S.sl i _ e
 exact ⟨a,vs,e1,o,h1,h2⟩
theorem Aep {B G0 H0 G H:Hp} {own:Nat->Option Addr} {σ:St} {ρ:Bj} {i:Nat} {r:V->List V->Hp->VK->Prop} {t:TA} {Q:VK} {ps:List PV} (S:Sat K C ω B G0 H0 own G σ H ρ) (e:ρ[i]? = some (.ow (.lst ps)))
  (k:∀ a vs,σ[i]? = some (some (.ref a))->own i = some a->H a = some (.lst vs)->Reps K C G vs ps->t σ H fun xs H2=>r (.ref a) xs H2 Q):tBM K "list" r (Fq i) t σ H Q:=by
 obtain ⟨a,vs,e1,o,h1,h2⟩:=S.list e
 exact ⟨_,e1,.inl ⟨rfl,_,SqL.of h1⟩,k a vs e1 o h1 h2⟩
def AcG (i:Nat) (ρ:Bj) (N:Bj->Prop) (qs:List PV):Prop:=∃ q ps,qs = [q]/\ρ[i]? = some (.ow (.lst ps))/\ps.length < 100000/\N (ρ.set i (.ow (.lst (ps ++ [q]))))
def Ad8 (i:Nat) (u:UA):US:=fun d ρ=>(∃ ps,ρ[i]? = some (.ow (.lst ps)))/\u ρ fun qs=>AcG i ρ d.nx qs
theorem Qg {i:Nat} {t:TA} {u:UA} (ha:AU K C ω [true] t u):SU K C ω rm (Si (tBM K "list" Sc (Fq i) t)) (Ad8 i u):=fun B G0 H0 own G σ H ρ D d S F ⟨⟨ps0,e0⟩,hu⟩ =>
 Aep S e0 fun a vs0 e1 o _ _=>ha B G0 H0 own G σ H ρ _ _ S hu fun xs qs G' H' w ok ⟨q,ps,eq,ep,hl,h⟩=>by
  have S':=S.grow w
  obtain ⟨a',vs,e1',o',h1,h2⟩:=S'.list ep
  rw [o] at o'; cases o'
  subst eq
  match xs,ok with
  | [x],ok =>
   have rx:Rep K C G' x q:=ok.1
   exact ⟨a,vs,x,rfl,rfl,h1,Aai (by rw [h2.1]; omega),fun H2 c e2=>F.nx own G' σ H2 _ (S'.chg o e1 c (OwnA.ofL e2 (Um h2 rx))) h⟩
  | [],ok=>cases ok
  | _ :: _ :: _,ok=>cases ok.2
def AbW (i:Nat):US:=fun d ρ=>∃ ps,ρ[i]? = some (.ow (.lst ps))/\d.nx (ρ.set i (.ow (.lst [])))
theorem Ack {i:Nat}:SU K C ω rm (Si (AfC K "list" Wz (Fq i))) (AbW i):=fun B G0 H0 own G σ H ρ D d S F ⟨ps,e,h⟩=>by
 obtain ⟨a,vs,e1,o,h1,h2⟩:=S.list e
 exact ⟨_,e1,.inl ⟨rfl,_,SqL.of h1⟩,a,vs,rfl,rfl,h1,fun H2 c e2=>F.nx own G σ H2 _ (S.chg o e1 c (OwnA.ofL e2 LAt.nil)) h⟩
theorem Afe:EF K C ω Wl (fun _ P=>P (.dk [])):=fun B G0 H0 own G σ H ρ P Q S hu k p hp =>
 k p _ G _ (Grow.own S.gr.i (Same.new hp)) hp (S.gr.i.free hp) (by first | exact OwnA.ofD Bq LAt.nil | exact OwnA.ofDt Bq LAt.nil) hu
def kP:Key->PV
 | .inl i=>.int i
 | .inr x=>.str x
def Fc {κ:Type} [DecidableEq κ] (kvs:List (κ × PV)) (k:κ):Option PV:=(kvs.find? fun kv=>decide (kv.1 = k)).map (·.2)
def Nn {κ:Type} [DecidableEq κ] (kvs:List (κ × PV)) (k:κ) (v:PV):List (κ × PV) :=
 if kvs.any (fun kv=>decide (kv.1 = k)) then kvs.map (fun kv=>if kv.1 = k then (kv.1,v) else kv) else kvs ++ [(k,v)]
theorem Sk {κ:Type} [DecidableEq κ] {G:Hp}:∀ {kvs:List (κ × V)} {ps:List (κ × PV)} (k:κ),LAt (KRep K C) G kvs ps->(Cg kvs k = none/\Fc ps k = none)\/∃ v p,Cg kvs k = some v/\Fc ps k = some p/\Rep K C G v p
 | [],[],_,_=>.inl ⟨rfl,rfl⟩
 | [],_ :: _,_,h=>by have:=h.1; simp at this
 | _ :: _,[],_,h=>by have:=h.1; simp at this
 | x :: xs,y :: ys,k,h=>by
  obtain ⟨⟨e,r⟩,h2⟩:=h.uncons
  unfold Cg Fc
  rw [List.find?_cons,List.find?_cons,<- e]
  by_cases z:x.1 = k
  ·rw [decide_eq_true z]; exact .inr ⟨_,_,rfl,rfl,r⟩
  ·rw [decide_eq_false z]; exact Sk k h2
theorem Zg {G H:Hp} {v:V} {k:Key} (h:RepB K C G H v (kP k)):v = kV k:=by
 cases k with
 | inl i=>exact h.int
 | inr x=>exact h.str
end
section
variable {K:PySem.W.Frag} {C:Addr} {ω:Om} {rm:Rm}
theorem Af9 {κ:Type} [DecidableEq κ] {G:Hp} {kvs:List (κ × V)} {ps:List (κ × PV)} {k:κ} {v:V} {p:PV} (h:LAt (KRep K C) G kvs ps) (r:Rep K C G v p):LAt (KRep K C) G (Fn kvs k v) (Nn ps k p):=by
 have hany:(kvs.any fun kv=>decide (kv.1 = k)) = (ps.any fun kv=>decide (kv.1 = k)):=by
  clear r
  induction kvs generalizing ps with
  | nil=>cases ps with
   | nil=>rfl
   | cons y ys=>have:=h.1; simp at this
  | cons x xs ih=>cases ps with
   | nil=>have:=h.1; simp at this
   | cons y ys =>
    obtain ⟨⟨e,_⟩,h2⟩:=h.uncons
    rw [List.any_cons,List.any_cons,e,ih h2]
 unfold Fn Nn
 rw [hany]
 split
 ·refine ⟨by rw [List.length_map,List.length_map,h.1],fun i x y e1 e2=>?_⟩
  rw [List.getElem?_map] at e1 e2
  obtain ⟨x',hx,rfl⟩:=Option.map_eq_some_iff.mp e1
  obtain ⟨y',hy,rfl⟩:=Option.map_eq_some_iff.mp e2
  obtain ⟨q1,q2⟩:=h.2 i x' y' hx hy
  by_cases z:x'.1 = k
  ·rw [if_pos z,if_pos (by rw [<- q1]; exact z)]; exact ⟨q1,r⟩
  ·rw [if_neg z,if_neg (by rw [<- q1]; exact z)]; exact ⟨q1,q2⟩
 ·exact LAt.snoc h ⟨rfl,r⟩
theorem Ae3 {G H:Hp} {v w:V} {kvs:List (Key × PV)} {k:Key} (i:Same G H) (r1:RepB K C G H w (.dk kvs)) (r2:RepB K C G H v (kP k)):∃ a o,w = .ref a/\IsD H a/\DGet H a v o/\((o = none/\Fc kvs k = none)\/∃ x p,o = some x/\Fc kvs k = some p/\Rep K C G x p):=by
 obtain ⟨a,vs,rfl,ea,l⟩:=r1.dk i
 rw [Zg r2]
 refine ⟨a,Cg vs k,rfl,.inl ⟨_,.inl ea⟩,DGet.k ea,?_⟩
 rcases Sk k l with ⟨h1,h2⟩ | ⟨x,p,h1,h2,h3⟩
 ·exact .inl ⟨h1,h2⟩
 ·exact .inr ⟨x,p,h1,h2,h3⟩
def Aab (p q:PV) (P:PV->Prop):Prop:=∃ kvs k x,p = .dk kvs/\q = kP k/\Fc kvs k = some x/\P x
def Vx (kvs:List (Key × PV)) (q z:PV) (P:PV->Prop):Prop:=∃ k,q = kP k/\P ((Fc kvs k).getD z)
def Abc (i:Nat) (ub uc:UE):UE:=fun ρ P=>∃ s kvs,ρ[i]? = some s/\s.val = some (.dk kvs)/\ub ρ fun q=>uc ρ fun z=>Vx kvs q z P
theorem AcP {i:Nat} {tb tc:TE} {ub uc:UE} (hb:EB K C ω tb ub) (hc:EU K C ω tc uc):EU K C ω (We (Fq i) tb tc) (Abc i ub uc):=fun B G0 H0 own G σ H ρ P Q S ⟨s,kvs,e,ev,hu⟩ k =>
 Bd B G0 H0 own G σ H ρ (fun p=>p = .dk kvs) _ S ⟨s,_,e,ev,rfl⟩ fun v q G1 H1 w1 r1 e0=>by
  subst e0
  obtain ⟨a,vs,rfl,ea,l⟩:=r1.dk w1.i
  refine ⟨a,rfl,.inl ⟨_,.inl ea⟩,hb B G0 H0 own G1 σ H1 ρ _ _ (S.grow w1) hu fun w p G2 H2 w2 r2 h2=>hc B G0 H0 own G2 σ H2 ρ _ _ ((S.grow w1).grow w2) h2 fun z pz G3 H3 w3 r3 ⟨key,e2,h⟩=>?_⟩
  subst e2
  obtain ⟨a',o,e,_,hg,ho⟩:=Ae3 w3.i ((r1.grow w2).grow w3) (r2.grow w3)
  cases e
  refine ⟨o,hg,?_⟩
  have w:=(w1.trans w2).trans w3
  rcases ho with ⟨h1,h2⟩ | ⟨y,p,h1,h2,h3⟩
  ·rw [h2] at h; subst h1; exact k _ _ G3 H3 w r3 h
  ·rw [h2] at h; subst h1; exact k _ _ G3 H3 w h3 h
def Zs (i:Nat) (ρ:Bj) (N:Bj->Prop) (p q:PV):Prop:=∃ kvs k,ρ[i]? = some (.ow (.dk kvs))/\q = kP k/\kvs.length < 100000/\N (ρ.set i (.ow (.dk (Nn kvs k p))))
def Ado (i:Nat) (ub uv:UE):US:=fun d ρ=>(∃ kvs,ρ[i]? = some (.ow (.dk kvs)))/\uv ρ fun p=>ub ρ fun q=>Zs i ρ d.nx p q
theorem AeC {i:Nat} {tb tv:TE} {ub uv:UE} (hb:EB K C ω tb ub) (hv:EU K C ω tv uv):SU K C ω rm (Yr (Fq i) tb tv) (Ado i ub uv):=fun B G0 H0 own G σ H ρ D d S F ⟨⟨kvs0,e0⟩,hu⟩ =>
 hv B G0 H0 own G σ H ρ _ _ S hu fun v p G1 H1 w1 r1 h1=>by
  have S1:=S.grow w1
  obtain ⟨a,ea,o,_⟩:=S.sl i _ e0
  refine ⟨_,ea,hb B G0 H0 own G1 σ H1 ρ _ _ S1 h1 fun w q G2 H2 w2 r2 ⟨kvs,k,e,e2,hl,h⟩=>?_⟩
  subst e2
  have S2:=S1.grow w2
  obtain ⟨a',ea',o',vs,ha,l⟩:=S2.sl i _ e
  rw [o] at o'; cases o'
  rw [Zg r2]
  exact ⟨a,_,rfl,DPut.k ha (Aai (by rw [l.1]; omega)),F.nx own G2 σ _ _ (S2.chg o ea Chg.put (OwnA.ofD Bq (Af9 l (r1.mono w2.g)))) h⟩
end
section
variable {K:PySem.W.Frag} {C:Addr} {ω:Om} {rm:Rm}
abbrev UI:=Bj->(List PV->Prop)->Prop
def AcY (ps:List PV) (ug:PV->Bj->(Bj->Prop)->Prop) (ub:US):US:=fun d ρ=>∃ I:Nat->Bj->Prop,I 0 ρ/\(∀ k p ρ,ps[k]? = some p->I k ρ->ug p ρ fun ρ'=>ub { d with nx:=I (k + 1),ct:=I (k + 1),bk:=d.nx } ρ')/\∀ ρ,I ps.length ρ->d.nx ρ
def AfR (ui:UI) (ug:PV->Bj->(Bj->Prop)->Prop) (ub:US):US:=fun d ρ=>ui ρ fun ps=>AcY ps ug ub d ρ
def bL (p:PV) (R:List PV->Prop):Prop:=∃ ps,(p = .lst ps\/∃ ns,p = .scr ns/\ps = ns.map .int)/\R ps
def uiL (ua:UE):UI:=fun ρ R=>ua ρ fun p=>bL p R
theorem Gx {B B1 G0 H0:Hp} {D:Ends} {d:Fi} {N:Bj->Prop} {M:St->Hp->Prop} (F:Aag K C ω rm B G0 H0 D d) (hb:Same B B1) (hM:∀ own G σ H ρ,Sat K C ω B1 G0 H0 own G σ H ρ->N ρ->M σ H) :
  Aag K C ω rm B1 G0 H0 { D with nx:=M,ct:=M,bk:=D.nx } { d with nx:=N,ct:=N,bk:=d.nx } :=
 ⟨hM,F.rt,fun own G σ H ρ S h=>F.nx own G σ H ρ (S.base (hb.trans S.kb)) h,hM⟩
theorem AfD {top:Nat} {ta:TE} {ua:UE} {g:TG} {ug:PV->Bj->(Bj->Prop)->Prop} {tb:TS} {ub:US} (ha:EU K C ω ta ua) (hg:GU K C ω top g ug) (hb:SU K C ω rm tb ub):SU K C ω rm (Nv (Ri K ta) g tb) (AfR (uiL ua) ug ub) :=
 fun B G0 H0 own G σ H ρ D d S F hu=>ha B G0 H0 own G σ H ρ _ _ S hu fun v p G1 H1 w1 r1 ⟨ps,e,I,i0,ist,iend⟩=>by
  have S1:=S.grow w1
  obtain ⟨a,vs,rfl,sq,rp⟩:∃ a vs,v = .ref a/\SqL K G1 a vs/\Reps K C G1 vs ps:=by
   rcases e with e | ⟨ns,e,e2⟩
   ·subst e
    cases r1 with
    | lst e l q=>exact ⟨_,_,rfl,SqL.of e,l,q⟩
   ·subst e e2
    cases r1 with
    | scr e=>exact ⟨_,_,rfl,e,Fp ns⟩
  refine ⟨a,rfl,⟨vs,w1.i.seq sq⟩,Sh (xs:=vs) (fun k σ' H'=>∃ own' G' ρ',Sat K C ω G1 G0 H0 own' G' σ' H' ρ'/\I k ρ') ⟨own,G1,ρ,S1.base (Same.refl _),i0⟩ (fun k σ' H' _ ⟨own',G',ρ',S',_⟩=>(S'.kb.trans S'.gr.i).seq sq) (fun k x σ' H' hx ⟨own',G',ρ',S',hi⟩=>?_) fun σ' H' ⟨own',G',ρ',S',hi⟩=>?_⟩
  ·obtain ⟨q,hq,rq⟩:=rp.get hx
   exact hg G1 G0 H0 own' G' σ' H' ρ' x q _ _ S' (rq.mono S'.kb) (ist k q ρ' hq hi) fun own2 σ2 ρ2 S2 _ h2=>hb G1 G0 H0 own2 G' σ2 H' ρ2 _ _ S2 (Gx F S1.kb fun own3 G3 σ3 H3 ρ3 S3 h3=>⟨own3,G3,ρ3,S3,h3⟩) h2
  ·rw [rp.1] at hi
   exact F.nx own' G' σ' H' ρ' (S'.base (S1.kb.trans S'.kb)) (iend ρ' hi)
def Yw (lo:Int) (n:Nat) (ug:PV->Bj->(Bj->Prop)->Prop) (ub:US):US:=fun d ρ=>∃ I:Nat->Bj->Prop,I 0 ρ/\(∀ k ρ,k < n->I k ρ->ug (.int (lo + k)) ρ fun ρ'=>ub { d with nx:=I (k + 1),ct:=I (k + 1),bk:=d.nx } ρ')/\∀ ρ,I n ρ->d.nx ρ
def bR1 (R:Nat->Prop) (ps:List PV):Prop:=∃ j:Int,ps = [.int j]/\-(2 ^ 62) <= j/\j < 2 ^ 62/\R j.toNat
def Adh (u:UA) (ug:PV->Bj->(Bj->Prop)->Prop) (ub:US):US:=fun d ρ=>u ρ fun ps=>bR1 (fun n=>Yw 0 n ug ub d ρ) ps
theorem AhE {top:Nat} {B G0 H0 G H:Hp} {own:Nat->Option Addr} {σ:St} {ρ:Bj} {D:Ends} {d:Fi} {lo:Int} {n:Nat} {g:TG} {ug:PV->Bj->(Bj->Prop)->Prop} {tb:TS} {ub:US} (hg:GU K C ω top g ug) (hb:SU K C ω rm tb ub) (S:Sat K C ω B G0 H0 own G σ H ρ) (F:Aag K C ω rm B G0 H0 D d) (h:Yw lo n ug ub d ρ) :
  ∃ W:Nat->Nat->St->Hp->Prop,(∃ m,W 0 m σ H)/\∀ i m σ H,W i m σ H->((Itr lo n).stop i H/\D.nx σ H)\/((Itr lo n).go i H/\∃ N:St->Hp->Prop,(∀ σ' H',N σ' H'->∃ m',m' < m/\W (i + 1) m' σ' H')/\∀ x H',(Itr lo n).yld i H x H'->g x σ H' fun σ2 H2=>tb { D with nx:=N,ct:=N,bk:=D.nx } σ2 H2):=by
 obtain ⟨I,i0,ist,iend⟩:=h
 refine Tr (fun k σ' H'=>∃ own' G' ρ',Sat K C ω B G0 H0 own' G' σ' H' ρ'/\I k ρ') ⟨own,G,ρ,S,i0⟩ (fun k σ' H' hk ⟨own',G',ρ',S',hi⟩=>?_) fun σ' H' ⟨own',G',ρ',S',hi⟩=>F.nx own' G' σ' H' ρ' S' (iend ρ' hi)
 exact hg B G0 H0 own' G' σ' H' ρ' _ _ _ _ S' (.int _) (ist k ρ' hk hi) fun own2 σ2 ρ2 S2 _ h2=>hb B G0 H0 own2 G' σ2 H' ρ2 _ _ S2 (Gx F (Same.refl _) fun own3 G3 σ3 H3 ρ3 S3 h3=>⟨own3,G3,ρ3,S3,h3⟩) h2
theorem Xt {top:Nat} {m:Bool} {t:TA} {u:UA} {g:TG} {ug:PV->Bj->(Bj->Prop)->Prop} {tb:TS} {ub:US} (ha:AU K C ω [m] t u) (hg:GU K C ω top g ug) (hb:SU K C ω rm tb ub):SU K C ω rm (Nv (Ze t) g tb) (Adh u ug ub) :=
 fun B G0 H0 own G σ H ρ D d S F hu=>ha B G0 H0 own G σ H ρ _ _ S hu fun vs ps G1 H1 w1 ok ⟨j,e,h1,h2,h⟩=>by
  obtain ⟨v,p,rfl,e2,r⟩:=Gv ok
  rw [e] at e2; cases e2
  exact ⟨j,by rw [r.int],h1,h2,AhE hg hb (S.grow w1) F h⟩
def AfV (uc:UT) (ub:US):US:=fun d ρ=>∃ I:Nat->Bj->Prop,(∃ m,I m ρ)/\∀ m ρ,I m ρ->uc ρ fun b=>if b = true then ub { d with nx:=fun ρ'=>∃ m',m' < m/\I m' ρ',ct:=fun ρ'=>∃ m',m' < m/\I m' ρ',bk:=d.nx } ρ else d.nx ρ
theorem Acq {tc:TT} {uc:UT} {tb:TS} {ub:US} (hc:TU K C ω tc uc) (hb:SU K C ω rm tb ub):SU K C ω rm (AbB tc tb) (AfV uc ub):=fun B G0 H0 own G σ H ρ D d S F ⟨I,⟨m,i0⟩,ist⟩ =>
 ⟨fun m σ' H'=>∃ own' G' ρ',Sat K C ω B G0 H0 own' G' σ' H' ρ'/\I m ρ',⟨m,own,G,ρ,S,i0⟩,fun m σ' H' ⟨own',G',ρ',S',hi⟩=>hc B G0 H0 own' G' σ' H' ρ' _ _ S' (ist m ρ' hi) fun b G1 H1 w1 h1=>by
  cases b with
  | false=>exact Gz (F.nx own' G1 σ' H1 ρ' (S'.grow w1) (by simpa using h1))
  | true =>
   refine Ja ?_
   refine ⟨fun σ2 H2=>∃ m',m' < m/\∃ own2 G2 ρ2,Sat K C ω B G0 H0 own2 G2 σ2 H2 ρ2/\I m' ρ2,fun σ2 H2 h=>h,hb B G0 H0 own' G1 σ' H1 ρ' _ _ (S'.grow w1) (Gx (N:=fun ρ'=>∃ m',m' < m/\I m' ρ') F (Same.refl _) fun own3 G3 σ3 H3 ρ3 S3 ⟨m',hm,h3⟩=>⟨m',hm,own3,G3,ρ3,S3,h3⟩) (by simpa using h1)⟩⟩
end
section
variable {K:PySem.W.Frag} {C:Addr} {ω:Om}
def boS:Sl->Sl
 | .ow p=>.bo p
 | .fz _ kvs=>.bz kvs
 | .fl _ ps=>.bo (.lst ps)
 | s=>s
def compρ (k:Nat) (fr:List Nat) (ρ:Bj):Bj:=List.replicate k .un ++ fr.map fun i=>boS ((ρ[i]?).getD .un)
theorem Sat.comp {B G0 H0 G1 H1:Hp} {own:Nat->Option Addr} {σ:St} {ρ:Bj} (S:Sat K C ω B G0 H0 own G1 σ H1 ρ) (k:Nat) (fr:List Nat) {G H:Hp} (w:Grow G1 H1 G H):Sat K C Om.no G1 G1 H1 (fun _=>none) G (compσ k fr σ) H (compρ k fr ρ):=by
 refine ⟨w.g,w,?_,fun i j a h=>(by cases h),fun i a h=>(by cases h),fun i s h=>?_,fun _ _ _ z=>z.elim⟩
 ·unfold compσ compρ; simp
 ·by_cases hk:i < k
  ·unfold compρ at h
   rw [List.getElem?_append_left (by rw [List.length_replicate]; exact hk),List.getElem?_replicate,if_pos hk] at h
   cases h; trivial
  ·unfold compρ at h
   rw [List.getElem?_append_right (by rw [List.length_replicate]; omega),List.length_replicate,List.getElem?_map] at h
   obtain ⟨j,hj,e⟩:=Option.map_eq_some_iff.mp h
   have hσ:(compσ k fr σ)[i]? = some (σ[j]?).join:=by
    unfold compσ
    rw [List.getElem?_append_right (by rw [List.length_replicate]; omega),List.length_replicate,List.getElem?_map,hj]; rfl
   cases e2:ρ[j]? with
   | none=>rw [e2] at e; cases e; trivial
   | some s0 =>
    rw [e2] at e
    have q:=S.sl j s0 e2
    cases s0 with
    | un=>cases e; trivial
    | sh p=>cases e; obtain ⟨v,ev,r⟩:=q; exact ⟨v,by rw [hσ,ev]; rfl,r.mono w.g⟩
    | bo p=>cases e; obtain ⟨v,ev,r⟩:=q; exact ⟨v,by rw [hσ,ev]; rfl,r.grow S.gr⟩
    | ow p=>cases e; obtain ⟨a,ev,_,r⟩:=q; exact ⟨_,by rw [hσ,ev]; rfl,.inr ⟨a,rfl,r⟩⟩
    | fz z kvs=>cases e; obtain ⟨ev,_,h1,h2⟩:=q; exact ⟨z.1,z.2.1,z.2.2,by rw [hσ,ev]; rfl,h1,KReps.mono h2 w.g⟩
    | bz kvs=>cases e; obtain ⟨a,o,vs,ev,h1,h2⟩:=q; exact ⟨a,o,vs,by rw [hσ,ev]; rfl,S.gr.h _ _ h1,KReps.mono h2 w.g⟩
    | fl z ps=>cases e; obtain ⟨ev,_,h1,h2⟩:=q; exact ⟨_,by rw [hσ,ev]; rfl,.inr ⟨z.1,rfl,OwnA.ofL h1 h2⟩⟩
def AdT:UT:=fun _ P=>P true
theorem Tm:TU K C ω Adb AdT:=fun B G0 H0 own G σ H ρ P Q S hu k=>k true G H (Grow.refl S.gr.i) hu
def Wj (ps:List PV) (ug:PV->Bj->(Bj->Prop)->Prop) (uc:UT) (ue:UE) (ρ':Bj) (P:PV->Prop):Prop:=∃ I:Nat->List PV->Prop,I 0 []/\(∀ n p rs,ps[n]? = some p->I n rs->ug p ρ' fun ρ2=>uc ρ2 fun b=>if b = true then ue ρ2 fun q=>I (n + 1) (rs ++ [q]) else I (n + 1) rs)/\∀ rs,I ps.length rs->P (.lst rs)
def CSt (K:PySem.W.Frag) (C:Addr) (G1 H1:Hp) (D:Addr) (I:Nat->List PV->Prop) (n:Nat) (H:Hp):Prop:=∃ G ys rs,Grow G1 H1 G H/\G D = none/\H D = some (.lst ys)/\Reps K C G ys rs/\rs.length <= n/\I n rs
theorem Tv {B G0 H0 G1 H1:Hp} {own:Nat->Option Addr} {σ:St} {ρ:Bj} (S:Sat K C ω B G0 H0 own G1 σ H1 ρ) {k:Nat} {fr:List Nat} {g:TG} {ug:PV->Bj->(Bj->Prop)->Prop} {tc:TT} {uc:UT} {te:TE} {ue:UE} (hg:GU K C Om.no k g ug) (hc:TU K C Om.no tc uc) (he:EU K C Om.no te ue) {D:Addr} (hD:H1 D = none) {I:Nat->List PV->Prop} {n:Nat} (hn:n < 100000) {x:V} {p:PV} {H':Hp} {N:Hp->Prop}
  (rx:∀ G,Same G1 G->Rep K C G x p) (st:CSt K C G1 H1 D I n H') (hN:∀ H'',CSt K C G1 H1 D I (n + 1) H''->N H'') (hs:∀ rs,I n rs->ug p (compρ k fr ρ) fun ρ2=>uc ρ2 fun b=>if b = true then ue ρ2 fun q=>I (n + 1) (rs ++ [q]) else I (n + 1) rs) :
  g x (compσ k fr σ) H' fun σ2 H2=>σ2.drop k = (compσ k fr σ).drop k/\tc σ2 H2 fun b H3=>if b = true then te σ2 H3 (fun y H4=>∃ ys,H4 D = some (.lst ys)/\ys.length < sizeLine/\N (upd H4 D (.lst (ys ++ [y])))) else N H3:=by
 obtain ⟨G,ys,rs,w,gD,eD,ry,hl,hi⟩:=st
 refine hg G1 G1 H1 _ G _ H' _ x p _ _ (S.comp k fr w) (rx G w.g) (hs rs hi) fun own' σ' ρ' S' dr h=>⟨dr,hc G1 G1 H1 own' G σ' H' ρ' _ _ S' h fun b G3 H3 w3 h3=>?_⟩
 cases b with
 | false=>exact Gz (hN _ ⟨G3,ys,rs,w.trans w3,w3.n D _ eD (fun _ z=>nomatch z) gD,w3.h _ _ eD,ry.mono w3.g,by omega,by simpa using h3⟩)
 | true =>
  refine Ja (he G1 G1 H1 own' G3 σ' H3 ρ' _ _ (S'.grow w3) (by simpa using h3) fun y q G4 H4 w4 r4 h4=>?_)
  have w34:=w3.trans w4
  have g4:G4 D = none:=w34.n D _ eD (fun _ z=>nomatch z) gD
  have e4:H4 D = some (.lst ys):=w34.h _ _ eD
  refine ⟨ys,e4,Aai (by rw [ry.1]; omega),hN _ ⟨G4,_,_,⟨(w.trans w34).g,fun b u h=>?_,fun b u h=>?_,(w.trans w34).n⟩,g4,Bq,Um (ry.mono w34.g) r4,by rw [List.length_append]; simp; omega,h4⟩⟩
  ·rw [Bi (by intro z; subst z; rw [hD] at h; cases h)]; exact (w.trans w34).h _ _ h
  ·rw [Bi (by intro z; subst z; rw [g4] at h; cases h)]; exact w34.i _ _ h
theorem Tq {G1 H1:Hp} {D:Addr} {I:Nat->List PV->Prop} (i:Same G1 H1) (hD:H1 D = none) (h:I 0 []):CSt K C G1 H1 D I 0 (upd H1 D (.lst [])) :=
 ⟨G1,[],[],Grow.own i (Same.new hD),i.free hD,Bq,LAt.nil,by simp,h⟩
def Ac3 (ua:UE) (ug:PV->Bj->(Bj->Prop)->Prop) (uc:UT) (ue:UE) (k:Nat) (fr:List Nat):UE:=fun ρ P=>ua ρ fun p=>bL p fun ps=>ps.length <= 100000/\Wj ps ug uc ue (compρ k fr ρ) P
theorem Tp {ta:TE} {ua:UE} {k:Nat} {fr:List Nat} {g:TG} {ug:PV->Bj->(Bj->Prop)->Prop} {tc:TT} {uc:UT} {te:TE} {ue:UE} (ha:EB K C ω ta ua) (hg:GU K C Om.no k g ug) (hc:TU K C Om.no tc uc) (he:EU K C Om.no te ue):EF K C ω (Lj (Ri K ta) g tc te k fr) (Ac3 ua ug uc ue k fr) :=
 fun B G0 H0 own G σ H ρ P Q S hu kk=>Xb (AiG (ha B G0 H0 own G σ H ρ _ _ S hu fun v p G1 H1 w1 r1 ⟨ps,e,hl,I,i0,ist,iend⟩=>by
  have S1:=S.grow w1
  obtain ⟨a,vs,rfl,sq,rp⟩:∃ a vs,v = .ref a/\SqL K H1 a vs/\Reps K C G1 vs ps:=by
   rcases e with e | ⟨ns,e,e2⟩
   ·subst e
    obtain ⟨a,vs,rfl,ea,l⟩:=r1.lst w1.i
    exact ⟨a,vs,rfl,SqL.of ea,l⟩
   ·subst e e2
    obtain ⟨a,rfl,ea⟩:=r1.scr w1.i
    exact ⟨a,_,rfl,ea,Fp ns⟩
  refine ⟨a,rfl,⟨vs,sq⟩,fun D hD=>CP.list vs (CSt K C G1 H1 D I) (Tq w1.i hD i0) (fun n H' _ ⟨G',_,_,w,_⟩=>w.h.seq sq) (fun n x H' N hx st hN=>?_) fun H' st=>?_⟩
  ·obtain ⟨q,hq,rq⟩:=rp.get hx
   have hn:n < ps.length:=(List.getElem?_eq_some_iff.mp hq).1
   exact Tv S1 hg hc he hD (by omega) (fun G' s=>rq.mono s) st hN fun rs hi=>ist n q rs hq hi
  ·obtain ⟨G',ys,rs,w,gD,eD,ry,_,hi⟩:=st
   rw [rp.1] at hi
   exact kk D _ G' H' (w1.trans w) (w1.h.free hD) gD (OwnA.ofL eD ry) (iend rs hi)))
end
section
variable {K:PySem.W.Frag} {C:Addr} {ω:Om}
abbrev PSp:=List PV->(PV->Prop)->Prop
def spOf (K:PySem.W.Frag) (C:Addr) (ms:List Bool) (rm:Rm) (psp:PSp):Sp:=fun vs H Q _=>∃ G ps P,Same G H/\ArgsOk K C G H ms vs ps/\psp ps P/\∀ G' H' v p,Grow G H G' H'->ROk K C rm H G' H' v p->P p->Q v H'
def Rh (psp:PSp) (u:UA):UE:=fun ρ P=>u ρ fun ps=>psp ps P
theorem Cl {ms:List Bool} {psp:PSp} {E:XK} {t:TA} {u:UA} (ha:AU K C ω ms t u):EU K C ω (Nq (spOf K C ms .sh psp) [] E t) (Rh psp u) :=
 fun B G0 H0 own G σ H ρ P Q S hu k=>ha B G0 H0 own G σ H ρ _ _ S hu fun vs ps G1 H1 w1 ok h=>by
  rw [List.append_nil]
  exact ⟨G1,ps,P,w1.i,ok,h,fun G' H' v p w r hp=>k v p G' H' (w1.trans w) r hp⟩
theorem Fu {ms:List Bool} {psp:PSp} {E:XK} {t:TA} {u:UA} (ha:AU K C ω ms t u):EF K C ω (Nq (spOf K C ms .fr psp) [] E t) (Rh psp u) :=
 fun B G0 H0 own G σ H ρ P Q S hu k=>ha B G0 H0 own G σ H ρ _ _ S hu fun vs ps G1 H1 w1 ok h=>by
  rw [List.append_nil]
  exact ⟨G1,ps,P,w1.i,ok,h,fun G' H' v p w ⟨a,e,n,g,r⟩ hp=>by subst e; exact k a p G' H' (w1.trans w) (w1.h.free n) g r hp⟩
def Dh (n:Nat) (ms:List Bool) (ps:List PV):Bj:=List.zipWith (fun m p=>if m = true then Sl.sh p else Sl.bo p) ms ps ++ List.replicate (n - ps.length) .un
def Fo (rm:Rm) (P:PV->Prop):Bj->Prop:=match rm with
 | .sh=>fun _=>P .non
 | .fr=>fun _=>False
theorem ArgsOk.slots {G H:Hp} {own:Nat->Option Addr}:∀ {ms:List Bool} {vs:List V} {ps:List PV} {i:Nat} {s:Sl} {σ:St} (k:Nat),ArgsOk K C G H ms vs ps->(∀ j v,vs[j]? = some v->σ[k + j]? = some (some v))->(List.zipWith (fun m p=>if m = true then Sl.sh p else Sl.bo p) ms ps)[i]? = some s->SlOk K C G H own G σ H (k + i) s
 | true :: ms,v :: vs,p :: ps,0,s,σ,k,ok,hσ,h=>by cases h; exact ⟨v,hσ 0 v rfl,ok.1⟩
 | false :: ms,v :: vs,p :: ps,0,s,σ,k,ok,hσ,h=>by cases h; exact ⟨v,hσ 0 v rfl,ok.1⟩
 | true :: ms,v :: vs,p :: ps,i + 1,s,σ,k,ok,hσ,h=>by
  have:=ArgsOk.slots (i:=i) (s:=s) (σ:=σ) (own:=own) (k + 1) ok.2 (fun j w hj=>by rw [show k + 1 + j = k + (j + 1) by omega]; exact hσ (j + 1) w (by simpa using hj)) (by simpa using h)
  rwa [show k + 1 + i = k + (i + 1) by omega] at this
 | false :: ms,v :: vs,p :: ps,i + 1,s,σ,k,ok,hσ,h=>by
  have:=ArgsOk.slots (i:=i) (s:=s) (σ:=σ) (own:=own) (k + 1) ok.2 (fun j w hj=>by rw [show k + 1 + j = k + (j + 1) by omega]; exact hσ (j + 1) w (by simpa using hj)) (by simpa using h)
  rwa [show k + 1 + i = k + (i + 1) by omega] at this
 | [],_,_,_,_,_,_,_,_,h=>by simp at h
 | _ :: _,_,[],_,_,_,_,_,_,h=>by simp at h
 | true :: _,[],_ :: _,_,_,_,_,ok,_,_=>by cases ok
 | false :: _,[],_ :: _,_,_,_,_,ok,_,_=>by cases ok
theorem Cy {ms:List Bool} {rm:Rm} {psp:PSp} {N:List Str} {vs:List V} {H:Hp} {Q:VK} {E:XK} {t:TS} {u:US} (h:spOf K C ms rm psp vs H Q E) (hn:ms.length <= N.length) (hs:SU K C Om.no rm t u)
  (hp:∀ ps P,psp ps P->u ⟨Fo rm P,P,fun _=>False,fun _=>False⟩ (Dh N.length ms ps)):t { nx:=fun _ H'=>Q .non H',rt:=Q } (L2.Lk N vs) H:=by
 obtain ⟨G,ps,P,i,ok,hq,k⟩:=h
 obtain ⟨l1,l2⟩:=ok.len
 have hz:(List.zipWith (fun m p=>if m = true then Sl.sh p else Sl.bo p) ms ps).length = ps.length:=by rw [List.length_zipWith,l2]; omega
 refine hs G G H (fun _=>none) G _ H _ _ ⟨Fo rm P,P,fun _=>False,fun _=>False⟩ ⟨Same.refl _,Grow.refl i,?_,fun i j a z=>(by cases z),fun i a z=>(by cases z),fun j s hj=>?_,fun _ _ _ z=>z.elim⟩ ⟨fun own' G' σ' H' ρ' S' q=>?_,fun G' H' v p w r hp=>k G' H' v p w r hp,fun _ _ _ _ _ _ q=>q.elim,fun _ _ _ _ _ _ q=>q.elim⟩ (hp ps P hq)
 ·unfold L2.Lk Dh
  rw [List.length_append,List.length_append,List.length_map,hz,List.length_replicate,List.length_replicate,l1,l2]
 ·unfold Dh at hj
  by_cases z:j < ps.length
  ·rw [List.getElem?_append_left (by rw [hz]; exact z)] at hj
   have q:=ArgsOk.slots (own:=fun _=>none) (σ:=L2.Lk N vs) 0 ok (fun j v hv=>by
    unfold L2.Lk
    rw [Nat.zero_add,List.getElem?_append_left (by rw [List.length_map]; exact (List.getElem?_eq_some_iff.mp hv).1),List.getElem?_map,hv]; rfl) hj
   rwa [Nat.zero_add] at q
  ·rw [List.getElem?_append_right (by rw [hz]; omega),List.getElem?_replicate] at hj
   split at hj
   ·cases hj; trivial
   ·cases hj
 ·cases rm with
  | sh=>exact k G' H' .non .non S'.gr .non q
  | fr=>exact q.elim
theorem spOf.len {ms:List Bool} {rm:Rm} {psp:PSp} {vs:List V} {H:Hp} {Q:VK} {E:XK} (h:spOf K C ms rm psp vs H Q E):vs.length = ms.length:=by
 obtain ⟨G,ps,P,i,ok,_⟩:=h
 exact ok.len.1
end
section
variable {K:PySem.W.Frag} {C:Addr} {ω:Om}
def Ol:PV->Bool
 | .non=>true
 | .int _=>true
 | .str _=>true
 | _=>false
theorem Ra {G:Hp} {v:V} {p:PV} (h:Rep K C G v p) (f:Ol p = true):Gg v = true:=by
 cases h <;> first | rfl | (cases f; done)
theorem Tc {G:Hp} {v w:V} {p q:PV} (h1:Rep K C G v p) (h2:Rep K C G w q) (f1:Ol p = true) (f2:Ol q = true):eqV v w = true ↔ p = q:=by
 cases h1 <;> first | (cases f1; done) | (cases h2 <;> first | (cases f2; done) | (simp [eqV]))
inductive Cmp:Nat->PV->PV->Prop where
 | flat {n:Nat} {p q:PV} (hp:Ol p = true) (hq:Ol q = true):Cmp n p q
 | bl {n:Nat} {x y:Bool}:Cmp n (.bl x) (.bl y)
 | lst {n:Nat} {xs ys:List PV} (h:xs.length = ys.length->∀ (i:Nat) (x y:PV),xs[i]? = some x->ys[i]? = some y->Cmp n x y):Cmp (n + 1) (.lst xs) (.lst ys)
 | tup {n:Nat} {xs ys:List PV} (h:∀ (i:Nat) (x y:PV),xs[i]? = some x->ys[i]? = some y->Cmp n x y):Cmp (n + 1) (.tup xs) (.tup ys)
theorem Ll {α:Type} {xs ys:List α} (hl:xs.length = ys.length) (h:∀ (i:Nat) (x y:α),xs[i]? = some x->ys[i]? = some y->x = y):xs = ys:=by
 refine List.ext_getElem? fun i=>?_
 cases e1:xs[i]? with
 | none=>rw [List.getElem?_eq_none (by have:=List.getElem?_eq_none_iff.mp e1; omega)]
 | some x =>
  have hi:i < ys.length:=by have:=(List.getElem?_eq_some_iff.mp e1).1; omega
  rw [List.getElem?_eq_getElem hi,h i x _ e1 (List.getElem?_eq_getElem hi)]
theorem Cmp.fn {G:Hp} {n:Nat} {p q:PV} (c:Cmp n p q):∀ {v:V},Rep K C G v p->Rep K C G v q->p = q:=by
 induction c with
 | flat hp hq=>intro v h1 h2; cases h1 <;> first | (cases hp; done) | (cases h2 <;> first | (cases hq; done) | rfl)
 | bl=>intro v h1 h2; cases h1; cases h2; rfl
 | @lst n xs ys h ih =>
  intro v h1 h2
  cases h1 with
  | lst e1 l1 q1=>cases h2 with
   | lst e2 l2 q2 =>
    rw [e1] at e2; cases e2
    have hl:xs.length = ys.length:=l1.symm.trans l2
    refine congrArg _ (Ll hl fun i x y hx hy=>?_)
    have hi:=(List.getElem?_eq_some_iff.mp hx).1
    obtain ⟨w,hw⟩:=(⟨_,List.getElem?_eq_getElem (by rw [l1]; exact hi)⟩:∃ w,_ = some w)
    exact ih hl i x y hx hy (q1 i w x hw hx) (q2 i w y hw hy)
 | @tup n xs ys h ih =>
  intro v h1 h2
  cases h1 with
  | tup e1 l1 q1=>cases h2 with
   | tup e2 l2 q2 =>
    rw [e1] at e2; cases e2
    have hl:xs.length = ys.length:=l1.symm.trans l2
    refine congrArg _ (Ll hl fun i x y hx hy=>?_)
    have hi:=(List.getElem?_eq_some_iff.mp hx).1
    obtain ⟨w,hw⟩:=(⟨_,List.getElem?_eq_getElem (by rw [l1]; exact hi)⟩:∃ w,_ = some w)
    exact ih i x y hx hy (q1 i w x hw hx) (q2 i w y hw hy)
noncomputable def pd (a:Prop):Bool:=@decide a (Classical.propDecidable a)
theorem pd_iff {a:Prop}:pd a = true ↔ a:=by unfold pd; exact @decide_eq_true_iff a (Classical.propDecidable a)
theorem Qk {n:Nat} {e:Nat->Bool}:(List.range n).all e = true ↔ ∀ i,i < n->e i = true:=by
 rw [List.all_eq_true]
 exact ⟨fun h i hi=>h i (List.mem_range.mpr hi),fun h i hi=>h i (List.mem_range.mp hi)⟩
theorem Fd {a b:Bool} (h:a = true ↔ b = true):a = b:=by
 cases a <;> cases b <;> simp_all
theorem Cmp.eqD {G H:Hp} (s:Same G H) {n:Nat} {p q:PV} (c:Cmp n p q):∀ {v w:V} {b:Bool},Rep K C G v p->Rep K C G w q->(b = true ↔ p = q)->EqD K H n v w b:=by
 induction c with
 | flat hp hq =>
  intro v w b h1 h2 hb
  have e:b = eqV v w:=Fd (hb.trans (Tc h1 h2 hp hq).symm)
  rw [e]
  exact EqD.flat (Ra h1 hp) (Ra h2 hq)
 | @bl n x y =>
  intro v w b h1 h2 hb
  cases h1
  cases h2
  have e:b = eqV (.bl x) (.bl y):=Fd (by rw [hb]; cases x <;> cases y <;> simp [eqV])
  rw [e]
  exact EqD.flat rfl rfl
 | @lst n xs ys h ih =>
  intro v w b h1 h2 hb
  have cc:Cmp (n + 1) (.lst xs) (.lst ys):=.lst h
  have h1':=h1
  have h2':=h2
  cases h1 with
  | @lst a1 vs1 _ e1 l1 q1=>cases h2 with
   | @lst a2 vs2 _ e2 l2 q2 =>
    by_cases z:a1 = a2
    ·subst z
     rw [show b = true from hb.mpr (cc.fn h1' h2')]
     exact EqD.same _
    ·by_cases hl:xs.length = ys.length
     ·have e:b = (List.range vs1.length).all (fun i=>pd (xs[i]? = ys[i]?)):=Fd (by
       rw [hb,Qk]
       constructor
       ·intro e i _; rw [pd_iff,PV.lst.inj e]
       ·intro e
        refine congrArg _ (List.ext_getElem? fun i=>?_)
        by_cases hi:i < vs1.length
        ·exact pd_iff.mp (e i hi)
        ·rw [List.getElem?_eq_none (by omega),List.getElem?_eq_none (by omega)])
      rw [e]
      refine EqD.lst _ z (SqL.of (s _ _ e1)) (SqL.of (s _ _ e2)) (by omega) fun i x y hx hy=>?_
      have hi:=(List.getElem?_eq_some_iff.mp hx).1
      have hx':xs[i]? = some xs[i]:=List.getElem?_eq_getElem (by omega)
      have hy':ys[i]? = some ys[i]:=List.getElem?_eq_getElem (by omega)
      refine ih hl i _ _ hx' hy' (q1 i x _ hx hx') (q2 i y _ hy hy') ?_
      rw [pd_iff,hx',hy']
      exact ⟨fun z=>Option.some.inj z,fun z=>congrArg some z⟩
     ·have e:b = false:=by
       cases b with
       | false=>rfl
       | true=>exact absurd (congrArg List.length (PV.lst.inj (hb.mp rfl))) hl
      rw [e]
      exact EqD.lstN z (SqL.of (s _ _ e1)) (SqL.of (s _ _ e2)) (by omega)
 | @tup n xs ys h ih =>
  intro v w b h1 h2 hb
  have cc:Cmp (n + 1) (.tup xs) (.tup ys):=.tup h
  have h1':=h1
  have h2':=h2
  cases h1 with
  | @tup a1 vs1 _ e1 l1 q1=>cases h2 with
   | @tup a2 vs2 _ e2 l2 q2 =>
    by_cases z:a1 = a2
    ·subst z
     rw [show b = true from hb.mpr (cc.fn h1' h2')]
     exact EqD.same _
    ·have e:b = ((List.range (min vs1.length vs2.length)).all (fun i=>pd (xs[i]? = ys[i]?)) && vs1.length == vs2.length):=Fd (by
      rw [hb,Bool.and_eq_true,Qk]
      constructor
      ·intro e
       have e':=PV.tup.inj e
       exact ⟨fun i _=>by rw [pd_iff,e'],by rw [l1,l2,e']; exact beq_self_eq_true _⟩
      ·rintro ⟨e,el⟩
       have el':vs1.length = vs2.length:=by simpa using el
       refine congrArg _ (List.ext_getElem? fun i=>?_)
       by_cases hi:i < vs1.length
       ·exact pd_iff.mp (e i (by omega))
       ·rw [List.getElem?_eq_none (by omega),List.getElem?_eq_none (by omega)])
     rw [e]
     refine EqD.tup _ z (SqT.of (s _ _ e1)) (SqT.of (s _ _ e2)) fun i x y hx hy=>?_
     have hi:=(List.getElem?_eq_some_iff.mp hx).1
     have hj:=(List.getElem?_eq_some_iff.mp hy).1
     have hx':xs[i]? = some xs[i]:=List.getElem?_eq_getElem (by omega)
     have hy':ys[i]? = some ys[i]:=List.getElem?_eq_getElem (by omega)
     refine ih i _ _ hx' hy' (q1 i x _ hx hx') (q2 i y _ hy hy') ?_
     rw [pd_iff,hx',hy']
     exact ⟨fun z=>Option.some.inj z,fun z=>congrArg some z⟩
def CmpL (xs ys:List PV):Prop:=xs.length = ys.length->∀ (i:Nat) (x y:PV),xs[i]? = some x->ys[i]? = some y->Cmp 40 x y
theorem CmpL.leq {G H:Hp} (s:Same G H) {vs ws:List V} {xs ys:List PV} (c:CmpL xs ys) (h1:Reps K C G vs xs) (h2:Reps K C G ws ys) {b:Bool} (hb:b = true ↔ xs = ys):LEq K H vs ws b:=by
 by_cases hl:xs.length = ys.length
 ·refine .inr ⟨by rw [h1.1,h2.1,hl],fun i=>pd (xs[i]? = ys[i]?),fun i x y hx hy=>?_,Fd ?_⟩
  ·obtain ⟨p,hp,rp⟩:=h1.get hx
   obtain ⟨q,hq,rq⟩:=h2.get hy
   refine (c hl i p q hp hq).eqD s rp rq ?_
   rw [pd_iff,hp,hq]
   exact ⟨fun z=>Option.some.inj z,fun z=>congrArg some z⟩
  ·rw [hb,Qk,h1.1]
   constructor
   ·intro e i _; rw [pd_iff,e]
   ·intro e
    refine List.ext_getElem? fun i=>?_
    by_cases hi:i < xs.length
    ·exact pd_iff.mp (e i hi)
    ·rw [List.getElem?_eq_none (by omega),List.getElem?_eq_none (by omega)]
 ·refine .inl ⟨by rw [h1.1,h2.1]; exact hl,?_⟩
  cases b with
  | false=>rfl
  | true=>exact absurd (congrArg List.length (hb.mp rfl)) hl
def Lq (neg:Bool) (p q:PV) (P:PV->Prop):Prop:=∃ xs ys,p = .lst xs/\q = .lst ys/\CmpL xs ys/\∀ b:Bool,(b = true ↔ xs = ys)->P (.bl (if neg then !b else b))
def Ahd (neg:Bool) (ua ub:UE):UE:=fun ρ P=>ua ρ fun p=>ub ρ fun q=>Lq neg p q P
theorem Le {neg:Bool} {ta tb:TE} {ua ub:UE} (ha:EB K C ω ta ua) (hb:EB K C ω tb ub):EU K C ω (tOp (Vq K neg) ta tb) (Ahd neg ua ub) :=
 fun B G0 H0 own G σ H ρ P Q S hu k=>two ha hb S hu fun v w p q G' H' gr r1 r2 ⟨xs,ys,e1,e2,c,h⟩=>by
  subst e1 e2
  obtain ⟨a,vs,rfl,ea,l⟩:=r1.lst gr.i
  obtain ⟨b,ws,rfl,eb,l2⟩:=r2.lst gr.i
  exact ⟨a,b,vs,ws,pd (xs = ys),rfl,rfl,SqL.of ea,SqL.of eb,c.leq gr.i l l2 pd_iff,k _ _ G' H' gr (.bl _) (h _ pd_iff)⟩
def Ahb:PV->Option (List PV)
 | .lst xs=>some xs
 | .tup xs=>some xs
 | .ctp xs=>some xs
 | _=>none
def bIn (neg:Bool) (p q:PV) (P:PV->Prop):Prop:=∃ xs,Ahb q = some xs/\Ol p = true/\(∀ x ∈ xs,Ol x = true)/\∀ b:Bool,(b = true ↔ p ∈ xs)->P (.bl (if neg then !b else b))
def uIn (neg:Bool) (ua ub:UE):UE:=fun ρ P=>ua ρ fun p=>ub ρ fun q=>bIn neg p q P
theorem RepB.seq {G H:Hp} {v:V} {q:PV} {xs:List PV} (i:Same G H) (h:RepB K C G H v q) (e:Ahb q = some xs):∃ a vs,v = .ref a/\(SqL K H a vs\/SqT K H a vs)/\Reps K C G vs xs:=by
 cases q <;> first | cases e | skip
 ·obtain ⟨a,vs,e,ea,l⟩:=h.lst i; exact ⟨a,vs,e,.inl (SqL.of ea),l⟩
 ·obtain ⟨a,vs,e,ea,l⟩:=h.tup i; exact ⟨a,vs,e,.inr (SqT.of ea),l⟩
 ·rcases h with h | ⟨a,_,h⟩
  ·cases h with
   | ctp e l q=>exact ⟨_,_,rfl,.inr (e H),l,q⟩
  ·exact h.elim
theorem Ahw {neg:Bool} {ta tb:TE} {ua ub:UE} (ha:EU K C ω ta ua) (hb:EB K C ω tb ub):EU K C ω (tOp (rIn K neg) ta tb) (uIn neg ua ub) :=
 fun B G0 H0 own G σ H ρ P Q S hu k=>ha B G0 H0 own G σ H ρ _ _ S hu fun v p G1 H1 w1 r1 h1=>hb B G0 H0 own G1 σ H1 ρ _ _ (S.grow w1) h1 fun w q G2 H2 w2 r2 ⟨xs,e,f1,f2,h⟩=>by
  obtain ⟨a,vs,rfl,sq,l⟩:=r2.seq w2.i e
  have r1':=r1.mono w2.g
  have hb:inV v vs = pd (p ∈ xs):=Fd (by
   rw [pd_iff]
   unfold inV
   rw [List.any_eq_true]
   constructor
   ·rintro ⟨y,hy,e⟩
    obtain ⟨i,hi⟩:=List.getElem?_of_mem hy
    obtain ⟨x,hx,rx⟩:=l.get hi
    rw [<- (Tc rx r1' (f2 x (List.mem_of_getElem? hx)) f1).mp e]
    exact List.mem_of_getElem? hx
   ·intro m
    obtain ⟨i,hi⟩:=List.getElem?_of_mem m
    obtain ⟨y,hy,ry⟩:=l.get' hi
    exact ⟨y,List.mem_of_getElem? hy,(Tc ry r1' f1 f1).mpr rfl⟩)
  refine ⟨a,vs,rfl,sq,Ra r1' f1,?_,?_⟩
  ·rw [List.all_eq_true]
   intro y hy
   obtain ⟨i,hi⟩:=List.getElem?_of_mem hy
   obtain ⟨x,hx,rx⟩:=l.get hi
   exact Ra rx (f2 x (List.mem_of_getElem? hx))
  ·rw [hb]; exact k _ _ G2 H2 (w1.trans w2) (.bl _) (h _ pd_iff)
def tyP:PV->Option String
 | .non=>some "NoneType"
 | .bl _=>some "bool"
 | .int _=>some "int"
 | .str _=>some "str"
 | .lst _=>some "list"
 | .tup _=>some "tuple"
 | .dk _=>some "dict"
 | .dt _=>some "dict"
 | _=>none
def kit (T n:String):Bool:=T == n || (T == "bool" && n == "int")
def Ac4:List String:=["NoneType","bool","int","str","list","tuple","dict"]
def AdG:List String:=["bool","int","str","list","tuple","dict"]
theorem AeI:∀ T ∈ Ac4,∀ n ∈ AdG,(if (Value.type T == Value.type n) = true then some true else if PySem.W.kitMeta n = true then (fastBuiltinMro T).map (·.contains (Value.type n)) else none) = some (kit T n):=by decide +kernel
theorem AhU {G H:Hp} (i:Same G H) {v:V} {p:PV} {T:String} (h:RepB K C G H v p) (e:tyP p = some T):Fb K H v (.type T)/\T ∈ Ac4:=by
 cases p <;> first | cases e | skip
 ·rcases h with h | ⟨_,_,h⟩
  ·cases h; exact ⟨.non,by decide⟩
  ·exact h.elim
 ·rw [h.bl]; exact ⟨.bl _,by decide⟩
 ·rw [h.int]; exact ⟨.int _,by decide⟩
 ·rw [h.str]; exact ⟨.str _,by decide⟩
 ·obtain ⟨a,vs,rfl,ea,l⟩:=h.lst i; exact ⟨.lst ea,by decide⟩
 ·obtain ⟨a,vs,rfl,ea,l⟩:=h.tup i; exact ⟨.tup ea,by decide⟩
 ·obtain ⟨a,vs,rfl,ea,l⟩:=h.dk i; exact ⟨.dK ea,by decide⟩
 ·obtain ⟨a,vs,rfl,ea,l⟩:=h.dt i; exact ⟨.dT ea,by decide⟩
def Tb (n:String) (p:PV) (P:PV->Prop):Prop:=∃ T,tyP p = some T/\P (.bl (kit T n))
def Afl (n:String) (ua:UE):UE:=fun ρ P=>ua ρ fun p=>Tb n p P
theorem Sx {n:String} {ta:TE} {ua:UE} (ha:EB K C ω ta ua) (hn:n ∈ AdG:=by decide):EU K C ω (tCB (fun vs H Q=>∃ x n t b,vs = [x,.ty n]/\Fb K H x t/\PySem.W.kitOne K t (.type n) = some b/\Q (.bl b) H) (Fy ta (Fy (tC (.ty n)) Sa))) (Afl n ua) :=
 fun B G0 H0 own G σ H ρ P Q S hu k=>ha B G0 H0 own G σ H ρ _ _ S hu fun v p G1 H1 w1 r1 ⟨T,e,h⟩=>by
  obtain ⟨ty,hT⟩:=AhU w1.i r1 e
  exact ⟨v,n,_,_,rfl,ty,Lv (AeI T hT n hn),k _ _ G1 H1 w1 (.bl _) h⟩
end
section
variable {K:PySem.W.Frag} {C:Addr} {ω:Om}
def vP:V->PV
 | .int i=>.int i
 | .str x=>.str x
 | .bl b=>.bl b
 | _=>.non
def scV:V->Bool
 | .int _=>true
 | .str _=>true
 | .bl _=>true
 | .non=>true
 | _=>false
theorem Af8 {G:Hp} {v w:V} (hs:scV w = true) (h:Rep K C G v (vP w)):v = w:=by
 cases w <;> first | (cases hs; done) | (cases h; rfl)
theorem AfN {G:Hp} {w:V} (hs:scV w = true):Rep K C G w (vP w):=by
 cases w <;> first | (cases hs; done) | constructor
theorem AbS {G:Hp} {vs ws:List V} (hs:∀ w ∈ ws,scV w = true) (h:Reps K C G vs (ws.map vP)):vs = ws:=by
 refine Ll (by rw [h.1,List.length_map]) fun i x y hx hy=>?_
 exact Af8 (hs y (List.mem_of_getElem? hy)) (h.2 i x (vP y) hx (by rw [List.getElem?_map,hy]; rfl))
theorem Aay {G:Hp} {ws:List V} (hs:∀ w ∈ ws,scV w = true):Reps K C G ws (ws.map vP) :=
 ⟨by rw [List.length_map],fun i v p h1 h2=>by
  rw [List.getElem?_map,h1] at h2
  cases h2
  exact AfN (hs v (List.mem_of_getElem? h1))⟩
theorem Ru {G:Hp} {v:V} {ws:List V} (hs:∀ w ∈ ws,scV w = true) (h:Rep K C G v (.tup (ws.map vP))):∃ p,v = .ref p/\G p = some (.tup ws):=by
 cases h with
 | tup e l q=>rw [AbS hs ⟨l,q⟩] at e; exact ⟨_,rfl,e⟩
theorem Sf {G:Hp} {p:Addr} {ws:List V} (hs:∀ w ∈ ws,scV w = true) (e:G p = some (.tup ws)):Rep K C G (.ref p) (.tup (ws.map vP)):=Rep.ofT e (Aay hs)
def sgW (s:Sg):List V:=[.int s.1,.str s.2.1,.int s.2.2]
def prW (m:Int × Int):List V:=[.int m.1,.int m.2]
def jnW (j:Jn):List V:=[.int j.1,.int j.2.1,.int j.2.2]
def sgP (s:Sg):PV:=.tup [.int s.1,.str s.2.1,.int s.2.2]
def prP (m:Int × Int):PV:=.tup [.int m.1,.int m.2]
def jnP (j:Jn):PV:=.tup [.int j.1,.int j.2.1,.int j.2.2]
theorem Aat (s:Sg):∀ w ∈ sgW s,scV w = true:=by intro w hw; simp [sgW] at hw; rcases hw with rfl | rfl | rfl <;> rfl
theorem Aa6 (s:Int × Int):∀ w ∈ prW s,scV w = true:=by intro w hw; simp [prW] at hw; rcases hw with rfl | rfl <;> rfl
theorem AbD (s:Jn):∀ w ∈ jnW s,scV w = true:=by intro w hw; simp [jnW] at hw; rcases hw with rfl | rfl | rfl <;> rfl
theorem Acs {G:Hp} {v:V} {s:Sg}:Rep K C G v (sgP s) ↔ TripAt G v s:=⟨fun h=>let ⟨p,e,hp⟩:=Ru (Aat s) h; ⟨p,e,hp⟩,fun ⟨p,e,hp⟩=>by subst e; exact Sf (Aat s) hp⟩
theorem AcD {G:Hp} {v:V} {s:Int × Int}:Rep K C G v (prP s) ↔ PairAt G v s:=⟨fun h=>let ⟨p,e,hp⟩:=Ru (Aa6 s) h; ⟨p,e,hp⟩,fun ⟨p,e,hp⟩=>by subst e; exact Sf (Aa6 s) hp⟩
theorem Afg {G:Hp} {v:V} {s:Jn}:Rep K C G v (jnP s) ↔ TrjAt G v s:=⟨fun h=>let ⟨p,e,hp⟩:=Ru (AbD s) h; ⟨p,e,hp⟩,fun ⟨p,e,hp⟩=>by subst e; exact Sf (AbD s) hp⟩
theorem Sb {α:Type} {R:Hp->V->α->Prop} {f:α->PV} (hf:∀ {G:Hp} {v:V} {s:α},Rep K C G v (f s) ↔ R G v s) {G:Hp} {vs:List V} {S:List α}:Reps K C G vs (S.map f) ↔ LAt R G vs S:=by
 constructor
 ·intro h
  refine ⟨by rw [h.1,List.length_map],fun i x y hx hy=>hf.mp (h.2 i x (f y) hx (by rw [List.getElem?_map,hy]; rfl))⟩
 ·intro h
  refine ⟨by rw [h.1,List.length_map],fun i x y hx hy=>?_⟩
  rw [List.getElem?_map] at hy
  obtain ⟨s,hs,e⟩:=Option.map_eq_some_iff.mp hy
  rw [<- e]
  exact hf.mpr (h.2 i x s hx hs)
def Lo (G H H':Hp):Hp:=fun a=>match H' a with
 | some (.tup xs)=>some (.tup xs)
 | o=>match H a with
  | none=>o
  | some _=>G a
theorem Qw {G H H':Hp} {a:Addr} {xs:List V} (e:H' a = some (.tup xs)):Lo G H H' a = some (.tup xs):=by unfold Lo; rw [e]
theorem Dk {G H H':Hp} {a:Addr} {o:HO} (n:H a = none) (e:H' a = some o):Lo G H H' a = some o:=by
 unfold Lo; rw [e,n]; cases o <;> rfl
theorem Qp {G H H':Hp} {a:Addr} {o:HO} (h:H a = some o) (s:Same H H') (t:Op o):Lo G H H' a = G a:=by
 unfold Lo; rw [s _ _ h,h]
 cases o <;> first | rfl | exact absurd rfl (t _)
theorem Of {G H H':Hp} (i:Same G H) (s:Same H H'):Grow G H (Lo G H H') H':=by
 refine ⟨fun a o h=>?_,s,fun a o h=>?_,fun a o h t hg=>by rw [Qp h s t]; exact hg⟩
 ·have h1:=i _ _ h
  by_cases t:Op o
  ·rw [Qp h1 s t]; exact h
  ·have:∃ xs,o = .tup xs:=Classical.byContradiction fun z=>t fun xs w=>z ⟨xs,w⟩
   obtain ⟨xs,rfl⟩:=this
   exact Qw (s _ _ h1)
 ·cases e:H' a with
  | none =>
   unfold Lo at h; rw [e] at h
   cases e2:H a with
   | none=>rw [e2] at h; cases h
   | some u=>rw [s _ _ e2] at e; cases e
  | some u =>
   by_cases t:Op u
   ·cases e2:H a with
    | none=>rw [Dk e2 e] at h; exact h
    | some w =>
     have:=s _ _ e2
     rw [e] at this; cases this
     rw [Qp e2 s t] at h
     rw [i _ _ h] at e2; cases e2; rfl
   ·have:∃ xs,u = .tup xs:=Classical.byContradiction fun z=>t fun xs w=>z ⟨xs,w⟩
    obtain ⟨xs,rfl⟩:=this
    rw [Qw e] at h; exact h
theorem AhB {G H:Hp} {l m n:Bool} {vs:List V} {ps:List PV} (h:ArgsOk K C G H [l,m,n] vs ps):∃ v w x p q r,vs = [v,w,x]/\ps = [p,q,r]/\RepB K C G H v p/\RepB K C G H w q/\RepB K C G H x r:=by
 match vs,ps,l,h with
 | v :: vs,p :: ps,true,h=>obtain ⟨w,x,q,r,rfl,rfl,h1,h2⟩:=Sr h.2; exact ⟨v,w,x,p,q,r,rfl,rfl,.inl h.1,h1,h2⟩
 | v :: vs,p :: ps,false,h=>obtain ⟨w,x,q,r,rfl,rfl,h1,h2⟩:=Sr h.2; exact ⟨v,w,x,p,q,r,rfl,rfl,h.1,h1,h2⟩
 | [],_,true,h=>cases h
 | [],_,false,h=>cases h
 | _ :: _,[],true,h=>cases h
 | _ :: _,[],false,h=>cases h
def bMk (P:PV->Prop) (ps:List PV):Prop:=∃ S M J,ps = [.lst (S.map sgP),.lst (M.map prP),.lst (J.map jnP)]/\(∀ s ∈ S,Uu s)/\(∀ m ∈ M,0 <= m.1/\0 <= m.2)/\(S.map (·.1) ++ Jb M).Nodup/\Yo (kK S ++ kM M) J/\S.length + 2 * M.length <= 400/\P (.bk S M J)
def uMk (u:UA):UE:=fun ρ P=>u ρ fun ps=>bMk P ps
theorem Ah7 {E:XK} {t:TA} {u:UA} (ha:AU K C ω [false,false,false] t u):EU K C ω (AdC C (Xd C) [] E t) (uMk u) :=
 fun B G0 H0 own G σ H ρ P Q St hu k=>ha B G0 H0 own G σ H ρ _ _ St hu fun vs ps G1 H1 w1 ok ⟨S,M,J,e,so,mo,nd,jo,hl,h⟩=>by
  obtain ⟨v,w,y,p,q,r,rfl,e2,r1,r2,r3⟩:=AhB ok
  rw [e] at e2; cases e2
  obtain ⟨a1,xs,rfl,ea1,l1⟩:=r1.lst w1.i
  obtain ⟨a2,ys,rfl,ea2,l2⟩:=r2.lst w1.i
  obtain ⟨a3,zs,rfl,ea3,l3⟩:=r3.lst w1.i
  intro x dx hx hdx ndx
  have sB:Same H1 (upd (upd H1 dx (.own x)) x (.ins C dx [])):=fun q' o e=>by rw [Bi (Br e hx),Bi (Br e hdx)]; exact e
  have sG:=w1.i.trans sB
  refine ⟨x,dx,a1,a2,a3,xs,ys,zs,S,M,J,rfl,Bq,sB _ _ ea1,sB _ _ ea2,sB _ _ ea3,((Sb Acs).mp l1).tripS sG,((Sb AcD).mp l2).pairS sG,((Sb Afg).mp l3).trjS sG,so,mo,nd,jo,hl,fun H2 kvs dx' dk dr dm dp dw kp fk fr fm fp fw e1 e2 e3 e4 e5 e6 lkv=>⟨rfl,?_⟩⟩
  have s2:Same H1 H2:=fun q' o e=>kp q' o (sB q' o e) (Br e hx)
  have g:=Of w1.i s2
  refine k _ _ _ H2 (w1.trans g) (.bk (kvs:=kvs) ⟨dx',dk,dr,dm,dp,dw,Dk hx e1,Dk (sB.free fk) e2,Dk (sB.free fr) e3,Dk (sB.free fm) e4,Dk (sB.free fp) e5,Dk (sB.free fw) e6⟩ ?_) h
  exact lkv.mono fun _ _ ⟨z1,p,z2,z3⟩=>⟨z1,p,z2,Qw z3⟩
def AiF:V->Str
 | .str x=>x
 | _=>"plain"
def Gq (S:List Sg) (M:List (Int × Int)) (n:Int):Str:=AiF ((Cg (kK S ++ kM M) (Sum.inl n)).getD (.str "plain"))
theorem AeG {κ:Type} [DecidableEq κ] {kvs:List (κ × V)} {k:κ} {v:V} (h:Cg kvs k = some v):∃ x,(x,v) ∈ kvs:=by
 unfold Cg at h
 obtain ⟨kv,h1,h2⟩:=Option.map_eq_some_iff.mp h
 exact ⟨kv.1,by rw [<- h2]; exact List.mem_of_find?_eq_some h1⟩
theorem Aey {M:List (Int × Int)} {x:Key} {v:V} (h:(x,v) ∈ kM M):∃ s,v = .str s:=by
 induction M with
 | nil=>cases h
 | cons m r ih =>
  rcases List.mem_cons.mp h with e | h
  ·cases e; exact ⟨_,rfl⟩
  ·rcases List.mem_cons.mp h with e | h
   ·cases e; exact ⟨_,rfl⟩
   ·exact ih h
theorem AgE (S:List Sg) (M:List (Int × Int)) (n:Int):(Cg (kK S ++ kM M) (Sum.inl n)).getD (.str "plain") = .str (Gq S M n):=by
 unfold Gq
 cases e:Cg (kK S ++ kM M) (Sum.inl n) with
 | none=>rfl
 | some v =>
  obtain ⟨x,hx⟩:=AeG e
  rcases List.mem_append.mp hx with h | h
  ·obtain ⟨s,_,e2⟩:=List.mem_map.mp h; cases e2; rfl
  ·obtain ⟨s,rfl⟩:=Aey h; rfl
def bBk (p:PV) (R:List Sg->List (Int × Int)->List Jn->Prop):Prop:=∃ S M J,p = .bk S M J/\R S M J
def uM1 (f:List Sg->List (Int × Int)->List Jn->Int->PV) (ua ub:UE):UE:=fun ρ P=>ua ρ fun p=>bBk p fun S M J=>ub ρ fun q=>bU (fun n=>f S M J n) q P
theorem RepB.bk {G H:Hp} {v:V} {S:List Sg} {M:List (Int × Int)} {J:List Jn} (h:RepB K C G H v (.bk S M J)):∃ b kvs,v = .ref b/\BookAt C G b (kK S ++ kM M) (kR S) (kB M) kvs (kW J)/\LAt KvAt G kvs J:=by
 rcases h with h | ⟨a,_,h⟩
 ·cases h with
  | bk h l=>exact ⟨_,_,rfl,h,l⟩
 ·exact h.elim
theorem AhO {nm:Str} {E:XK} {sp:Sp} {f:List Sg->List (Int × Int)->List Jn->Int->PV} {ta tb:TE} {ua ub:UE} (hm:∀ {dk dr dm dp dw:Addr},(bkF dk dr dm dp dw).lookup nm = none)
  (hs:∀ G H b S M J kvs n Q,Same G H->BookAt C G b (kK S ++ kM M) (kR S) (kB M) kvs (kW J)->LAt KvAt G kvs J->(∀ v,Rep K C G v (f S M J n)->Q v H)->sp [.ref b,.int n] H Q E)
  (ha:EB K C ω ta ua) (hb:EB K C ω tb ub):EU K C ω (Uy C nm sp [] E ta (Fy tb Sa)) (uM1 f ua ub) :=
 fun B G0 H0 own G σ H ρ P Q St hu k=>ha B G0 H0 own G σ H ρ _ _ St hu fun v p G1 H1 w1 r1 ⟨S,M,J,e,h1⟩=>by
  subst e
  obtain ⟨b,kvs,rfl,bk,l⟩:=r1.bk
  refine AbG (bk.mono fun _ _ e _=>w1.i _ _ e) hm (hb B G0 H0 own G1 σ H1 ρ _ _ (St.grow w1) h1 fun w q G2 H2 w2 r2 ⟨n,e,h⟩=>?_)
  subst e
  rw [r2.int]
  exact hs G2 H2 b S M J kvs n Q w2.i (bk.mono fun _ _ e _=>w2.g _ _ e) (l.kvS w2.g) fun v rv=>k v _ G2 H2 (w1.trans w2) rv h
theorem AeK {E:XK} {ta tb:TE} {ua ub:UE} (ha:EB K C ω ta ua) (hb:EB K C ω tb ub):EU K C ω (Uy C "kind" (Tj C) [] E ta (Fy tb Sa)) (uM1 (fun S M _ n=>.str (Gq S M n)) ua ub) :=
 AhO Wi (fun G H b S M J kvs n Q i bk l k=>⟨b,n,_,_,_,_,_,rfl,bk.mono fun _ _ e _=>i _ _ e,by rw [AgE]; exact k _ (.str _)⟩) ha hb
end
section
variable {ρ:Bj} {P:PV->Prop} {B:Bool->Prop} {R:Bj->Prop} {d:Fi} {ua ub uc:UE} {ta tb:UT} {u w:US} {x y:PV}
theorem Adk (q:u { d with nx:=w d } ρ):Acn u w d ρ:=q
theorem Abk (q:d.nx ρ):Adq d ρ:=q
theorem Abv (q:ua ρ fun _=>d.nx ρ):AdI ua d ρ:=q
theorem AcW (q:ua ρ d.rt):AcL ua d ρ:=q
theorem Abe {i:Nat} (h:ρ[i]? = some (.ow x)) (q:d.rt x):Ac1 i d ρ:=⟨x,h,q⟩
theorem Ag3 (q:ta ρ fun b=>if b = true then u d ρ else w d ρ):Ag1 ta u w d ρ:=q
theorem Ad1 {i:Nat} (q:ua ρ fun p=>d.nx (ρ.set i (.sh p))):AgX i ua d ρ:=q
theorem AaW {i:Nat} (q:ua ρ fun p=>d.nx (ρ.set i (.ow p))):Ad3 i ua d ρ:=q
theorem Ye {i:Nat} (q:R (ρ.set i (.sh x))):Aax i x ρ R:=q
theorem Abi {n:Nat} {ps:List PV} {us:List PV->Bj->(Bj->Prop)->Prop} (hl:ps.length = n) (q:us ps ρ R):Ada n us (.tup ps) ρ R:=⟨ps,rfl,hl,q⟩
theorem Xf {r:List PV} {ug:PV->Bj->(Bj->Prop)->Prop} {us:List PV->Bj->(Bj->Prop)->Prop} (q:ug x ρ fun ρ'=>us r ρ' R):Xw ug us (x :: r) ρ R:=⟨x,r,rfl,q⟩
theorem AaK (q:R ρ):AbH [] ρ R:=⟨rfl,q⟩
theorem AdH {i:Nat} {s:Sl} (h1:ρ[i]? = some s) (h2:s.val = some x) (q:P x):Agj i ρ P:=⟨s,x,h1,h2,q⟩
theorem AbR {i:Nat} (h1:ρ[i]? = some (.sh x)) (q:P x):Ac9 i ρ P:=⟨x,h1,q⟩
theorem p_c (q:P x):uC x ρ P:=q
theorem Afy {g:Int->Int->PV} (q:ua ρ fun p=>ub ρ fun q=>bI0 g p q P):uI0 g ua ub ρ P:=q
theorem Afv {g:Int->Int->PV} {i j:Int} (q:P (g i j)):bI0 g (.int i) (.int j) P:=⟨i,j,rfl,rfl,q⟩
theorem p_i {c:Int->Int->Prop} {g:Int->Int->PV} (q:ua ρ fun p=>ub ρ fun q=>bI c g p q P):uI c g ua ub ρ P:=q
theorem Adc {g:Int->Int->PV} {i j:Int} (q:P (g i j)) (hc:0 < j):bI (fun _ j=>0 < j) g (.int i) (.int j) P:=⟨i,j,rfl,rfl,hc,q⟩
theorem AdR {g:Int->Int->PV} {i j:Int} (q:P (g i j)) (hc:Yp i j):bI Yp g (.int i) (.int j) P:=⟨i,j,rfl,rfl,hc,q⟩
theorem Ad5 {g:Int->Int->PV} {i j:Int} (q:P (g i j)) (hc:CMul i j):bI CMul g (.int i) (.int j) P:=⟨i,j,rfl,rfl,hc,q⟩
theorem AdX {g:Int->Int->PV} {i j:Int} (q:P (g i j)) (hc:Yz i j):bI Yz g (.int i) (.int j) P:=⟨i,j,rfl,rfl,hc,q⟩
theorem p_u {g:Int->PV} (q:ua ρ fun p=>bU g p P):uU g ua ρ P:=q
theorem b_u {g:Int->PV} {i:Int} (q:P (g i)):bU g (.int i) P:=⟨i,rfl,q⟩
theorem AdE {neg:Bool} (q:ua ρ fun p=>ub ρ fun q=>Vl neg p q P):AcO neg ua ub ρ P:=q
theorem Ac5 {i j:Int} (q:P (.bl (decide (i = j)))):Vl false (.int i) (.int j) P:=.inl ⟨i,j,rfl,rfl,q⟩
theorem Adu {i j:Int} (q:P (.bl (!decide (i = j)))):Vl true (.int i) (.int j) P:=.inl ⟨i,j,rfl,rfl,q⟩
theorem Ad4 {i j:Str} (q:P (.bl (decide (i = j)))):Vl false (.str i) (.str j) P:=.inr ⟨i,j,rfl,rfl,q⟩
theorem p_b (q:ua ρ fun p=>bB p B):uB ua ρ B:=q
theorem b_b {b:Bool} (q:B b):bB (.bl b) B:=⟨b,rfl,q⟩
theorem Adw (q:ta ρ fun b=>if b = true then tb ρ B else B false):AfW ta tb ρ B:=q
theorem AgY (q:ta ρ fun b=>if b = true then B true else tb ρ B):uOr ta tb ρ B:=q
theorem Ad2 (q:ta ρ fun b=>B (!b)):AfF ta ρ B:=q
theorem AaC (q:ua ρ fun p=>bB p fun b=>if b = true then ub ρ P else P (.bl false)):AdS ua ub ρ P:=q
theorem Aa4 (q:ua ρ fun p=>bB p fun b=>P (.bl (!b))):Ad0 ua ρ P:=q
theorem AdN {L:List PV->Prop} (q:L []):Agv ρ L:=q
theorem Abg {L:List PV->Prop} {ur:UA} (q:ua ρ fun p=>ur ρ fun ps=>L (p :: ps)):Yn ua ur ρ L:=q
theorem AdL {ur:UA} (q:ur ρ fun ps=>P (.lst ps)):AgJ ur ρ P:=q
theorem AdV {ur:UA} (q:ur ρ fun ps=>P (.tup ps)):Agc ur ρ P:=q
theorem Aea (q:ua ρ fun p=>ub ρ fun q=>Rr p q P):AgG ua ub ρ P:=q
theorem Ym {ps:List PV} {i:Int} (h:atI ps i = some x) (q:P x):Rr (.lst ps) (.int i) P:=⟨i,ps,x,rfl,.inl rfl,h,q⟩
theorem AhA {ns:List Int} {i n:Int} (h:atI ns i = some n) (q:P (.int n)):Rr (.scr ns) (.int i) P:=⟨i,_,_,rfl,.inr ⟨ns,rfl,rfl⟩,by
 unfold L2.atI at h ⊢
 rw [List.length_map]
 cases e:ixN ns.length i with
 | none=>rw [e] at h; cases h
 | some j=>rw [e] at h; show (ns.map PV.int)[j]? = _; rw [List.getElem?_map,show ns[j]? = some n from h]; rfl,q⟩
theorem Ac6 (q:ua ρ fun p=>ub ρ fun q=>Zx p q P):Agq ua ub ρ P:=q
theorem AbV {a:PV} {r:List PV} (q:P a):Zx (.tup (a :: r)) (.int 0) P:=⟨0,_,_,rfl,rfl,Ju (j:=0) rfl,q⟩
theorem Abz {a b:PV} {r:List PV} (q:P b):Zx (.tup (a :: b :: r)) (.int 1) P:=⟨1,_,_,rfl,rfl,Ju (j:=1) rfl,q⟩
theorem Aby {O:Option Int->Prop} (q:ua ρ fun p=>Zm p O):Adg ua ρ O:=q
theorem Aal {O:Option Int->Prop} {i:Int} (q:O (some i)):Zm (.int i) O:=⟨i,rfl,q⟩
theorem AdB {ul uh:UO} (q:ua ρ fun p=>ul ρ fun lo=>uh ρ fun hi=>Acp p lo hi P):Agk ua ul uh ρ P:=q
theorem AcZ {ns:List Int} {lo hi:Option Int} (q:P (.lst ((Nu ns lo hi).map .int))):Acp (.scr ns) lo hi P:=⟨_,.inr ⟨ns,rfl,rfl⟩,by rw [AcI]; exact q⟩
theorem Ac0 (q:ua ρ fun p=>ub ρ fun q=>Aca p q P):AfE ua ub ρ P:=q
theorem Adz {xs ys:List PV} (q:P (.lst (xs ++ ys))) (hl:xs.length + ys.length <= 100000):Aca (.lst xs) (.lst ys) P:=⟨xs,ys,rfl,rfl,hl,q⟩
theorem AgU {ur:List PV->(PV->Prop)->Prop} {us:UA} (q:us ρ fun ps=>ur ps P):uCB ur us ρ P:=q
theorem Abm {xs:List PV} (q:P (.int (xs.length:Nat))):Uv [.lst xs] P:=⟨_,.inr (.inl ⟨xs,rfl,rfl⟩),q⟩
theorem Aaw {xs:List PV} (q:P (.int (xs.length:Nat))):Uv [.tup xs] P:=⟨_,.inr (.inr (.inl ⟨xs,rfl,rfl⟩)),q⟩
theorem Aau {ns:List Int} (q:P (.int (ns.length:Nat))):Uv [.scr ns] P:=⟨_,.inr (.inr (.inr ⟨ns,rfl,rfl⟩)),q⟩
theorem Aa5 {b:Bool} (q:P (.int (if b then 1 else 0))):AdW [.bl b] P:=.inr ⟨b,rfl,q⟩
theorem Xu {xs:List PV} (q:P (.lst xs)):Aam [.lst xs] P:=⟨xs,.inl rfl,q⟩
theorem Adm {i:Nat} {us:UA} {ps:List PV} (h:ρ[i]? = some (.ow (.lst ps))) (q:us ρ fun qs=>AcG i ρ d.nx qs):Ad8 i us d ρ:=⟨⟨ps,h⟩,q⟩
theorem Adv {i:Nat} {N:Bj->Prop} {ps:List PV} (h:ρ[i]? = some (.ow (.lst ps))) (q:N (ρ.set i (.ow (.lst (ps ++ [x]))))) (hl:ps.length < 100000):AcG i ρ N [x]:=⟨x,ps,rfl,h,hl,q⟩
theorem Yf {i:Nat} {ps:List PV} (h:ρ[i]? = some (.ow (.lst ps))) (q:d.nx (ρ.set i (.ow (.lst [])))):AbW i d ρ:=⟨ps,h,q⟩
theorem Vi {kvs:List (Key × PV)} {n:Int} (h:Fc kvs (.inl n) = some x) (q:P x):Aab (.dk kvs) (.int n) P:=⟨kvs,.inl n,x,rfl,rfl,h,q⟩
theorem Xa {i:Nat} {s:Sl} {kvs:List (Key × PV)} (h1:ρ[i]? = some s) (h2:s.val = some (.dk kvs)) (q:ub ρ fun q=>uc ρ fun z=>Vx kvs q z P):Abc i ub uc ρ P:=⟨s,kvs,h1,h2,q⟩
theorem Xz {kvs:List (Key × PV)} {n:Int} (q:P ((Fc kvs (.inl n)).getD x)):Vx kvs (.int n) x P:=⟨.inl n,rfl,q⟩
theorem Aar {i:Nat} {kvs:List (Key × PV)} (h:ρ[i]? = some (.ow (.dk kvs))) (q:ub ρ fun p=>ua ρ fun q=>Zs i ρ d.nx p q):Ado i ua ub d ρ:=⟨⟨kvs,h⟩,q⟩
theorem AaI {i:Nat} {kvs:List (Key × PV)} {n:Int} {N:Bj->Prop} (h:ρ[i]? = some (.ow (.dk kvs))) (q:N (ρ.set i (.ow (.dk (Nn kvs (.inl n) x))))) (hl:kvs.length < 100000):Zs i ρ N x (.int n):=⟨kvs,.inl n,h,rfl,hl,q⟩
theorem AdP {ui:UI} {ug:PV->Bj->(Bj->Prop)->Prop} (q:ui ρ fun ps=>AcY ps ug u d ρ):AfR ui ug u d ρ:=q
theorem AdJ {L:List PV->Prop} (q:ua ρ fun p=>bL p L):uiL ua ρ L:=q
theorem b_L {L:List PV->Prop} {ps:List PV} (q:L ps):bL (.lst ps) L:=⟨ps,.inl rfl,q⟩
theorem AbJ {us:UA} {ug:PV->Bj->(Bj->Prop)->Prop} (q:us ρ fun ps=>bR1 (fun n=>Yw 0 n ug u d ρ) ps):Adh us ug u d ρ:=q
theorem AbQ {ug:PV->Bj->(Bj->Prop)->Prop} {k:Nat} {fr:List Nat} (q:ua ρ fun p=>bL p fun ps=>ps.length <= 100000/\Wj ps ug ta ue (compρ k fr ρ) P):Ac3 ua ug ta ue k fr ρ P:=q
theorem Abl (q:B true):AdT ρ B:=q
theorem AbC {psp:PSp} {us:UA} (q:us ρ fun ps=>psp ps P):Rh psp us ρ P:=q
theorem AdY {neg:Bool} (q:ua ρ fun p=>ub ρ fun q=>Lq neg p q P):Ahd neg ua ub ρ P:=q
theorem Afq {neg:Bool} (q:ua ρ fun p=>ub ρ fun q=>bIn neg p q P):uIn neg ua ub ρ P:=q
theorem Ac2 {n:String} (q:ua ρ fun p=>Tb n p P):Afl n ua ρ P:=q
theorem Abx {xs:List PV} (q:P (.bl true)):Tb "list" (.lst xs) P:=⟨_,rfl,q⟩
theorem Abb {i:Int} (q:P (.bl true)):Tb "int" (.int i) P:=⟨_,rfl,q⟩
theorem Aas {i:Int} (q:P (.bl false)):Tb "bool" (.int i) P:=⟨_,rfl,q⟩
theorem AbF {xs:List PV} (q:P (.bl true)):Tb "tuple" (.tup xs) P:=⟨_,rfl,q⟩
theorem Ag0 {L:Nat->Prop} {j:Int} (q:L j.toNat) (h:-(2 ^ 62) <= j/\j < 2 ^ 62):bR1 L [.int j]:=⟨j,rfl,h.1,h.2,q⟩
theorem Wd {a:PV} {r:List PV} (q:P a):Rr (.lst (a :: r)) (.int 0) P:=⟨0,_,_,rfl,.inl rfl,Ju (j:=0) rfl,q⟩
theorem Gh {α:Type} {f:α->PV} {l:List α} {j:Nat} {a:α} {i:Int} (h:l[j]? = some a) (e:i = (j:Int)) (q:P (f a)):Rr (.lst (l.map f)) (.int i) P:=by
 subst e
 exact ⟨_,_,_,rfl,.inl rfl,Ju (by rw [List.getElem?_map,h]; rfl),q⟩
theorem AgW {us:UA} (q:us ρ fun ps=>bMk P ps):uMk us ρ P:=q
theorem Af6 {f:List Sg->List (Int × Int)->List Jn->Int->PV} (q:ua ρ fun p=>bBk p fun S M J=>ub ρ fun q=>bU (fun n=>f S M J n) q P):uM1 f ua ub ρ P:=q
theorem Ag8 {S:List Sg} {M:List (Int × Int)} {J:List Jn} {L:List Sg->List (Int × Int)->List Jn->Prop} (q:L S M J):bBk (.bk S M J) L:=⟨S,M,J,rfl,q⟩
theorem Vn {xs ys:List Int}:CmpL (xs.map .int) (ys.map .int):=fun _ i x y hx hy=>by
 rw [List.getElem?_map] at hx hy
 obtain ⟨a,_,rfl⟩:=Option.map_eq_some_iff.mp hx
 obtain ⟨b,_,rfl⟩:=Option.map_eq_some_iff.mp hy
 exact .flat rfl rfl
theorem Rp {xs ys:List Int} (h:xs.map PV.int = ys.map PV.int):xs = ys:=by
 induction xs generalizing ys with
 | nil=>cases ys with
  | nil=>rfl
  | cons _ _=>cases h
 | cons x xs ih=>cases ys with
  | nil=>cases h
  | cons y ys=>injection h with h1 h2; injection h1 with h1; rw [h1,ih h2]
theorem Ag6 {xs ys:List Int} (q:P (.bl (decide (xs = ys)))):Lq false (.lst (xs.map .int)) (.lst (ys.map .int)) P:=⟨_,_,rfl,rfl,Vn,fun b hb=>by
 have:b = decide (xs = ys):=Fd (by rw [hb,decide_eq_true_iff]; exact ⟨Rp,fun h=>by rw [h]⟩)
 rw [this]; exact q⟩
theorem Agx {xs ys:List Int} (q:P (.bl (!decide (xs = ys)))):Lq true (.lst (xs.map .int)) (.lst (ys.map .int)) P:=⟨_,_,rfl,rfl,Vn,fun b hb=>by
 have:b = decide (xs = ys):=Fd (by rw [hb,decide_eq_true_iff]; exact ⟨Rp,fun h=>by rw [h]⟩)
 rw [this]; exact q⟩
theorem Th {α:Type} {S:List α} {enc:α->PV} {f:α->Option PV} {ug:PV->Bj->(Bj->Prop)->Prop} {ue:UE} {ρ':Bj} (q:P (.lst (S.filterMap f))) (h:∀ s ∈ S,∀ Z:Option PV->Prop,Z (f s)->ug (enc s) ρ' fun ρ2=>ta ρ2 fun b=>if b = true then ue ρ2 fun q=>Z (some q) else Z none):Wj (S.map enc) ug ta ue ρ' P:=by
 refine ⟨fun n rs=>rs = (S.take n).filterMap f,rfl,fun n p rs hp hr=>?_,fun rs hr=>?_⟩
 ·rw [List.getElem?_map] at hp
  obtain ⟨s,hs,rfl⟩:=Option.map_eq_some_iff.mp hp
  subst hr
  refine h s (List.mem_of_getElem? hs) (fun o=>(match o with | some q=>(S.take n).filterMap f ++ [q] | none=>(S.take n).filterMap f) = (S.take (n + 1)).filterMap f) ?_
  rw [Dd hs,List.filterMap_append]
  cases e:f s with
  | none=>simp [List.filterMap_cons,e]
  | some x=>simp [List.filterMap_cons,e]
 ·rw [List.length_map,List.take_length] at hr
  rw [hr]; exact q
end
section
variable {K:PySem.W.Frag} {C:Addr} {ω:Om} {rm:Rm}
theorem Qt {G:Hp} {vs:List V} {ns:List Int} (h:Reps K C G vs (ns.map .int)):vs = ns.map V.int:=by
 refine Ll (by rw [h.1,List.length_map,List.length_map]) fun i x y hx hy=>?_
 rw [List.getElem?_map] at hy
 obtain ⟨n,hn,rfl⟩:=Option.map_eq_some_iff.mp hy
 have r:=h.2 i x (.int n) hx (by rw [List.getElem?_map,hn]; rfl)
 cases r; rfl
end
def Xy:PSp:=fun ps P=>∃ ns,ps = [.scr ns]/\ns.length <= 63/\P (.bl true)
def Sq (K:PySem.W.Frag):Sp:=fun vs H Q _=>∃ (a:Addr) (ns:List Int),vs = [.ref a]/\SqL K H a (ns.map V.int)/\ns.length <= 63/\∀ H',Q (.bl true) H'
theorem Ae6 {K:PySem.W.Frag} {C:Addr}:∀ vs H Q E,Sq K vs H Q E->spOf K C [false] .sh Xy vs H Q E:=fun vs H Q E ⟨a,ns,e,hS,hl,q⟩=>by
 subst e
 refine ⟨H,[.scr ns],fun p=>p = .bl true,Same.refl _,⟨.inl (.scr hS),trivial⟩,⟨ns,rfl,hl,rfl⟩,fun G' H' v p w r hp=>?_⟩
 subst hp
 have r':Rep K C G' v (.bl true):=r
 cases r'
 exact q H'
section
variable {K:PySem.W.Frag} {C:Addr}
end
section
variable {K:PySem.W.Frag} {C:Addr} {ω:Om}
end
section
variable {K:PySem.W.Frag} {C:Addr} {ω:Om} {rm:Rm}
end
section
variable {K:PySem.W.Frag} {C:Addr} {ω:Om} {rm:Rm}
theorem AcT {κ:Type} [DecidableEq κ] (kvs:List (κ × PV)) (k k':κ) (v:PV):Fc (Nn kvs k v) k' = if k = k' then some v else Fc kvs k':=by
 have fnd:∀ l:List (κ × PV),Fc (l.map fun kv=>if kv.1 = k then (kv.1,v) else kv) k' = if k = k' then (if l.any (fun kv=>decide (kv.1 = k)) = true then some v else none) else Fc l k':=by
  intro l
  induction l with
  | nil=>unfold Fc; simp
  | cons x l ih =>
   have h1:∀ (y:κ × PV) (r:List (κ × PV)),Fc (y :: r) k' = if y.1 = k' then some y.2 else Fc r k':=fun y r=>by
    unfold Fc
    rw [List.find?_cons]
    by_cases z:y.1 = k'
    ·simp [z]
    ·simp [z]
   rw [List.map_cons,h1,ih,h1]
   by_cases e:k = k'
   ·subst e
    by_cases z:x.1 = k
    ·simp [z]
    ·rw [if_neg z,if_neg z,if_pos rfl,if_pos rfl,List.any_cons,decide_eq_false z,Bool.false_or]
   ·by_cases z:x.1 = k
    ·have:¬ x.1 = k':=fun w=>e (z.symm.trans w)
     simp [z,e]
    ·simp [z,e]
 unfold Nn
 by_cases z:(kvs.any fun kv=>decide (kv.1 = k)) = true
 ·rw [if_pos z,fnd,if_pos z]
 ·rw [if_neg z]
  unfold Fc
  rw [List.find?_append]
  by_cases e:k = k'
  ·subst e
   have:(kvs.find? fun kv=>decide (kv.1 = k)) = none:=by
    rw [List.find?_eq_none]
    intro x hx w
    exact z (List.any_eq_true.mpr ⟨x,hx,w⟩)
   rw [this]; simp
  ·rw [if_neg e]
   cases (kvs.find? fun kv=>decide (kv.1 = k')) with
   | none=>simp [e]
   | some y=>simp
end
section
variable {K:PySem.W.Frag} {C:Addr} {ω:Om} {rm:Rm}
end
section
variable {K:PySem.W.Frag} {C:Addr} {ω:Om} {rm:Rm}
end
section
variable {K:PySem.W.Frag} {C:Addr} {ω:Om}
def Zp (ps ks:List PV) (P:PV->Prop):Prop:=∃ (ns:List Int) (d:Int),ps = [.lst (ns.map .int)]/\ks = [.int d]/\(ns = []->P (.int d))/\∀ m ∈ ns,(∀ x ∈ ns,x <= m)->P (.int m)
def Adi (u uk:UA):UE:=fun ρ P=>u ρ fun ps=>uk ρ fun ks=>Zp ps ks P
theorem Aer {m m':Bool} {t tk:TA} {u uk:UA} (ha:AU K C ω [m] t u) (hk:AU K C ω [m'] tk uk):EU K C ω (AdK K t tk) (Adi u uk) :=
 fun B G0 H0 own G σ H ρ P Q S hu k=>ha B G0 H0 own G σ H ρ _ _ S hu fun vs ps G1 H1 w1 r1 h1=>hk B G0 H0 own G1 σ H1 ρ _ _ (S.grow w1) h1 fun ws ks G2 H2 w2 r2 ⟨ns,d,e1,e2,h2,h3⟩=>by
  obtain ⟨x,px,rfl,e3,r⟩:=Gv r1
  obtain ⟨y,py,rfl,e4,r'⟩:=Gv r2
  rw [e3] at e1; cases e1
  rw [e4] at e2; cases e2
  obtain ⟨a,vs,rfl,ea,la⟩:=r.lst w1.i
  rw [r'.int]
  exact ⟨a,ns,d,rfl,rfl,SqL.of (by rw [<- Qt la]; exact w2.h _ _ ea),fun e=>k _ _ G2 H2 (w1.trans w2) (.int _) (h2 e),fun m hm hx=>k _ _ G2 H2 (w1.trans w2) (.int _) (h3 m hm hx)⟩
theorem AfH {ρ:Bj} {u uk:UA} {P:PV->Prop} (q:u ρ fun ps=>uk ρ fun ks=>Zp ps ks P):Adi u uk ρ P:=q
theorem Afk {ns:List Int} {d:Int} {P:PV->Prop} (q0:ns = []->P (.int d)) (q1:∀ m ∈ ns,(∀ x ∈ ns,x <= m)->P (.int m)):Zp [.lst (ns.map .int)] [.int d] P:=⟨ns,d,rfl,rfl,q0,q1⟩
end
theorem Ae4 {u w:US} {d:Fi} {ρ:Bj} (N:Bj->Prop) (h1:∀ ρ',N ρ'->w d ρ') (h2:u { d with nx:=fun ρ'=>N ρ'\/w d ρ' } ρ):Acn u w d ρ:=by
 have e:(fun ρ'=>N ρ'\/w d ρ') = w d:=funext fun ρ'=>propext ⟨fun z=>z.elim (h1 ρ') id,.inr⟩
 rw [e] at h2
 exact h2
section
variable {K:PySem.W.Frag} {C:Addr} {ω:Om} {rm:Rm}
def Zz (i:Int) (n:Nat):List PV:=(List.range n).map fun (k:Nat)=>.int (i + (k:Int))
theorem Aci {G:Hp} {i:Int} {n:Nat}:Reps K C G ((List.range n).map fun (k:Nat)=>V.int (i + (k:Int))) (Zz i n):=by
 unfold Zz
 refine ⟨by simp,fun j v p h1 h2=>?_⟩
 rw [List.getElem?_map] at h1 h2
 cases e:(List.range n)[j]? with
 | none=>rw [e] at h1; cases h1
 | some m=>rw [e] at h1 h2; cases h1; cases h2; exact .int _
theorem Ahg (n:Nat):Zz 0 n = (List.range n).map fun (k:Nat)=>.int (k:Int):=by
 unfold Zz; refine List.map_congr_left fun k _=>?_; rw [Int.zero_add]
def AcX (ps:List PV) (P:PV->Prop):Prop:=∃ j:Int,ps = [.int j]/\-(2 ^ 62) <= j/\j < 16000000/\P (.lst ((List.range j.toNat).map fun (k:Nat)=>.int (k:Int)))
theorem AhZ {j:Int} {P:PV->Prop} (q:P (.lst ((List.range j.toNat).map fun (k:Nat)=>.int (k:Int)))) (h:-(2 ^ 62) <= j/\j < 16000000):AcX [.int j] P:=⟨j,rfl,h.1,h.2,q⟩
theorem AfU {m:Bool} {t:TA} {u:UA} (ha:AU K C ω [m] t u):EF K C ω (AfI t) (uCB AcX u) :=
 fun B G0 H0 own G σ H ρ P Q S hu k=>ha B G0 H0 own G σ H ρ _ _ S hu fun vs ps G1 H1 w1 ok ⟨j,e,h1,h2,h⟩=>by
  obtain ⟨v,p,rfl,e2,r⟩:=Gv ok
  rw [e] at e2; cases e2
  refine ⟨j,by rw [r.int],h1,h2,fun b H2 hb s2 e2=>k b _ G1 H2 (w1.trans (Grow.own w1.i s2)) (w1.h.free hb) (w1.i.free hb) (OwnA.ofL e2 ?_) h⟩
  rw [<- Ahg]
  have:=Aci (K:=K) (C:=C) (G:=G1) (i:=0) (n:=j.toNat)
  simpa using this
theorem Abn {a b:PV} {r:List PV} {P:PV->Prop} (q:P b):Rr (.lst (a :: b :: r)) (.int 1) P:=⟨1,_,_,rfl,.inl rfl,Ju (j:=1) rfl,q⟩
end
section
variable {K:PySem.W.Frag} {C:Addr} {ω:Om} {rm:Rm}
def To (ug:PV->Bj->(Bj->Prop)->Prop) (uc:UT) (ue:UE) (ρ':Bj) (P:PV->Prop) (ps:List PV):Prop:=∃ i j:Int,ps = [.int i,.int j]/\(-(2 ^ 62) <= i/\i < 2 ^ 62/\-(2 ^ 62) <= j/\j < 2 ^ 62)/\j - i < 100000/\∃ I:Nat->List PV->Prop,I 0 []/\(∀ n rs,n < (j - i).toNat->I n rs->ug (.int (i + n)) ρ' fun ρ2=>uc ρ2 fun b=>if b = true then ue ρ2 fun q=>I (n + 1) (rs ++ [q]) else I (n + 1) rs)/\∀ rs,I (j - i).toNat rs->P (.lst rs)
def Xq (u:UA) (ug:PV->Bj->(Bj->Prop)->Prop) (uc:UT) (ue:UE) (k:Nat) (fr:List Nat):UE:=fun ρ P=>u ρ fun ps=>To ug uc ue (compρ k fr ρ) P ps
theorem Acr {ρ:Bj} {P:PV->Prop} {u:UA} {ug:PV->Bj->(Bj->Prop)->Prop} {uc:UT} {ue:UE} {k:Nat} {fr:List Nat} (q:u ρ fun ps=>To ug uc ue (compρ k fr ρ) P ps):Xq u ug uc ue k fr ρ P:=q
theorem Tw {m m':Bool} {t:TA} {u:UA} {k:Nat} {fr:List Nat} {g:TG} {ug:PV->Bj->(Bj->Prop)->Prop} {tc:TT} {uc:UT} {te:TE} {ue:UE} (ha:AU K C ω [m,m'] t u) (hg:GU K C Om.no k g ug) (hc:TU K C Om.no tc uc) (he:EU K C Om.no te ue):EF K C ω (Lj (Zv t) g tc te k fr) (Xq u ug uc ue k fr) :=
 fun B G0 H0 own G σ H ρ P Q S hu kk=>Xb (show Zv t σ H _ from ha B G0 H0 own G σ H ρ _ _ S hu fun vs ps G1 H1 w1 ok ⟨i,j,e,hb,h2,I,i0,ist,iend⟩=>by
  have S1:=S.grow w1
  obtain ⟨v,v',p,p',rfl,e2,r,r'⟩:=Sr ok
  rw [e] at e2; cases e2
  refine ⟨i,j,by rw [r.int,r'.int],hb,fun D hD=>CP.range (CSt K C G1 H1 D I) (Tq w1.i hD i0) (fun n H' N hx st hN=>Tv S1 hg hc he hD (by omega) (fun G' s=>.int _) st hN fun rs hi=>ist n rs hx hi) fun H' st=>?_⟩
  obtain ⟨G',ys,rs,w,gD,eD,ry,_,hi⟩:=st
  exact kk D _ G' H' (w1.trans w) (w1.h.free hD) gD (OwnA.ofL eD ry) (iend rs hi))
abbrev Fz:=Addr × Obj × List (Key × V)
def fzE (i:Nat) (z:Fz) (kvs:List (Key × PV)) (N:Bj->Prop) (ρ:Bj):Prop:=ρ[i]? = some (.fz z kvs)/\N (ρ.set i (.ow (.dk kvs)))
def Wf (i:Nat) (z:Fz) (kvs:List (Key × PV)) (d:Fi):Fi:=⟨fzE i z kvs d.nx,fun _=>False,fzE i z kvs d.bk,fzE i z kvs d.ct⟩
def AgO (i:Nat) (u:US):US:=fun d ρ=>∃ kvs,ρ[i]? = some (.ow (.dk kvs))/\∀ z,u (Wf i z kvs d) (ρ.set i (.fz z kvs))
theorem Nc {H:Hp} {a b:Addr} {o u:HO} (n:b ≠ a) (h:H b = some u):upd H a o b = some u:=by rw [Bi n]; exact h
theorem Sat.turn {B G0 H0 G H:Hp} {own:Nat->Option Addr} {σ:St} {ρ:Bj} (S:Sat K C ω B G0 H0 own G σ H ρ) {i:Nat} {a:Addr} {o:HO} {s':Sl} (e:own i = some a) (ht:Op o) (hs:SlOk K C G0 H0 own G σ (upd H a o) i s'):Sat K C ω B G0 H0 own G σ (upd H a o) (ρ.set i s'):=by
 obtain ⟨f0,fg,_⟩:=S.fr i a e
 have ng:∀ b u,G b = some u->b ≠ a:=fun b u h w=>by subst w; rw [fg] at h; cases h
 have n0:∀ b u,H0 b = some u->b ≠ a:=fun b u h w=>by subst w; rw [f0] at h; cases h
 refine ⟨S.kb,⟨S.gr.g,fun b u h=>Nc (n0 b u h) (S.gr.h _ _ h),fun b u h=>Nc (ng b u h) (S.gr.i _ _ h),S.gr.n⟩,by rw [List.length_set,S.len],S.inj,fun j b h=>?_,fun j s h=>?_,S.ex⟩
 ·obtain ⟨q0,qg,u,qh,qt⟩:=S.fr j b h
  by_cases w:b = a
  ·subst w; exact ⟨q0,qg,o,Bq,ht⟩
  ·exact ⟨q0,qg,u,Nc w qh,qt⟩
 ·rcases Nf h with ⟨rfl,rfl,hl⟩ | ⟨z,h⟩
  ·exact hs
  ·have q:=S.sl j s h
   cases s with
   | un=>trivial
   | sh p=>exact q
   | bo p=>exact q
   | bz kvs=>exact q
   | fz y kvs =>
    obtain ⟨e1,o1,h1,h2⟩:=q
    exact ⟨e1,o1,Nc (fun w=>z (S.inj j i a (by rw [<- w]; exact o1) e)) h1,h2⟩
   | fl y ps =>
    obtain ⟨e1,o1,h1,h2⟩:=q
    exact ⟨e1,o1,Nc (fun w=>z (S.inj j i a (by rw [<- w]; exact o1) e)) h1,h2⟩
   | ow p' =>
    obtain ⟨b,e1,o1,r1⟩:=q
    exact ⟨b,e1,o1,r1.mono (Same.refl _) (Bi fun w=>z (S.inj j i a (by rw [<- w]; exact o1) e))⟩
theorem AfK {i:Nat} {t:TS} {u:US} (h:SU K C ω rm t u):SU K C ω rm (Zk t) (AgO i u):=fun B G0 H0 own G σ H ρ D d S F ⟨kvs,e,hu⟩=>by
 obtain ⟨a,ea,eo,vs,ha,l⟩:=S.sl i _ e
 refine ⟨a,.dK vs,trivial,ha,fun o=>?_⟩
 have S1:=S.turn (o:=.frz o (.dK vs)) (s':=.fz (a,o,vs) kvs) eo (fun _ z=>nomatch z) ⟨ea,eo,Bq,l⟩
 have key:∀ (N:Bj->Prop) (M:St->Hp->Prop),(∀ own G σ H ρ,Sat K C ω B G0 H0 own G σ H ρ->N ρ->M σ H)->∀ own' G' σ' H' ρ',Sat K C ω B G0 H0 own' G' σ' H' ρ'->fzE i (a,o,vs) kvs N ρ'->∃ o',H' a = some (.frz o' (.dK vs))/\M σ' (upd H' a (.dK vs)):=fun N M hM own' G' σ' H' ρ' S' ⟨e',h'⟩=>by
  obtain ⟨h1,h2,h3,h4⟩:=S'.sl i _ e'
  exact ⟨o,h3,hM own' G' σ' _ _ (S'.turn (o:=.dK vs) (s':=.ow (.dk kvs)) h2 (fun _ z=>nomatch z) ⟨a,h1,h2,OwnA.ofD Bq h4⟩) h'⟩
 exact h B G0 H0 own G σ _ _ _ (Wf i (a,o,vs) kvs d) S1 ⟨key d.nx D.nx F.nx,fun _ _ _ _ _ _ z=>z.elim,key d.bk D.bk F.bk,key d.ct D.ct F.ct⟩ (hu (a,o,vs))
def Xl (i:Nat) (z:Fz) (kvs:List (Key × PV)) (ug:PV->Bj->(Bj->Prop)->Prop) (ub:US) (d:Fi) (ρ:Bj):Prop:=∃ I:Nat->Bj->Prop,I 0 ρ/\(∀ k ρ,I k ρ->ρ[i]? = some (.fz z kvs))/\(∀ k kv ρ,kvs[k]? = some kv->I k ρ->ug (kP kv.1) ρ fun ρ'=>ub { d with nx:=I (k + 1),ct:=I (k + 1),bk:=d.nx } ρ')/\∀ ρ,I kvs.length ρ->d.nx ρ
def Abq (i:Nat) (ug:PV->Bj->(Bj->Prop)->Prop) (ub:US):US:=fun d ρ=>∃ z kvs,ρ[i]? = some (.fz z kvs)/\Xl i z kvs ug ub d ρ
theorem Af4 {G:Hp} (k:Key):Rep K C G (kV k) (kP k):=by
 cases k with
 | inl i=>exact .int _
 | inr x=>exact .str _
theorem AcR {top:Nat} {i:Nat} {g:TG} {ug:PV->Bj->(Bj->Prop)->Prop} {tb:TS} {ub:US} (hg:GU K C ω top g ug) (hb:SU K C ω rm tb ub):SU K C ω rm (Nv (iDk (Fq i)) g tb) (Abq i ug ub) :=
 fun B G0 H0 own G σ H ρ D d S F ⟨z,kvs,e,I,i0,iz,ist,iend⟩=>by
  obtain ⟨e1,e2,e3,e4⟩:=S.sl i _ e
  refine ⟨_,e1,z.1,z.2.1,z.2.2,rfl,e3,Ud (fun k σ' H'=>∃ own' G' ρ',Sat K C ω B G0 H0 own' G' σ' H' ρ'/\I k ρ') ⟨own,G,ρ,S,i0⟩ (fun k σ' H' _ ⟨own',G',ρ',S',hi⟩=>(S'.sl i _ (iz k ρ' hi)).2.2.1) (fun k kv σ' H' hx ⟨own',G',ρ',S',hi⟩=>?_) fun σ' H' ⟨own',G',ρ',S',hi⟩=>?_⟩
  ·have hk:k < kvs.length:=by rw [<- e4.1]; exact (List.getElem?_eq_some_iff.mp hx).1
   obtain ⟨q,hq⟩:∃ q,kvs[k]? = some q:=⟨_,List.getElem?_eq_getElem hk⟩
   have rq:=e4.2 k kv q hx hq
   rw [show kv.1 = q.1 from rq.1]
   exact hg B G0 H0 own' G' σ' H' ρ' _ _ _ _ S' (Af4 q.1) (ist k q ρ' hq hi) fun own2 σ2 ρ2 S2 _ h2=>hb B G0 H0 own2 G' σ2 H' ρ2 _ _ S2 (Gx F (Same.refl _) fun own3 G3 σ3 H3 ρ3 S3 h3=>⟨own3,G3,ρ3,S3,h3⟩) h2
  ·rw [e4.1] at hi
   exact F.nx own' G' σ' H' ρ' S' (iend ρ' hi)
def Sl.fzv:Sl->Option (List (Key × PV))
 | .fz _ kvs=>some kvs
 | .bz kvs=>some kvs
 | _=>none
def AaN (i:Nat) (ub:UE):UE:=fun ρ P=>∃ s kvs,ρ[i]? = some s/\s.fzv = some kvs/\ub ρ fun q=>Aab (.dk kvs) q P
theorem Rs {i:Nat} {tb:TE} {ub:UE} (hb:EB K C ω tb ub):EU K C ω (Yx (Fq i) tb) (AaN i ub):=fun B G0 H0 own G σ H ρ P Q S ⟨s,kvs,e,ev,hu⟩ k=>by
 have key:∃ a o vs,σ[i]? = some (some (.ref a))/\H a = some (.frz o (.dK vs))/\LAt (KRep K C) G vs kvs:=by
  have q:=S.sl i s e
  cases s with
  | fz z kvs'=>cases ev; obtain ⟨h1,_,h2,h3⟩:=q; exact ⟨_,_,_,h1,h2,h3⟩
  | bz kvs'=>cases ev; obtain ⟨a,o,vs,h1,h2,h3⟩:=q; exact ⟨a,o,vs,h1,S.gr.h _ _ h2,h3⟩
  | _=>cases ev
 obtain ⟨a,o,vs,ea,ha,l⟩:=key
 refine ⟨_,ea,hb B G0 H0 own G σ H ρ _ _ S hu fun w p G1 H1 w1 r1 ⟨kvs',k',x,e1,e2,e3,h⟩=>?_⟩
 cases e1
 subst e2
 rw [Zg r1]
 rcases Sk k' (KReps.mono l w1.g) with ⟨h1,h2⟩ | ⟨y,p,h1,h2,h3⟩
 ·rw [e3] at h2; cases h2
 ·rw [e3] at h2; cases h2
  exact ⟨a,y,rfl,.inl ⟨vs,k',.inr ⟨o,w1.h _ _ ha⟩,rfl,h1.symm⟩,k _ _ G1 H1 w1 h3 h⟩
theorem Sat.slot {B G0 H0 G H:Hp} {own:Nat->Option Addr} {σ:St} {ρ:Bj} (S:Sat K C ω B G0 H0 own G σ H ρ) {i:Nat} {s':Sl} (hs:SlOk K C G0 H0 own G σ H i s'):Sat K C ω B G0 H0 own G σ H (ρ.set i s') :=
 ⟨S.kb,S.gr,by rw [List.length_set,S.len],S.inj,S.fr,fun j s h=>by
  rcases Nf h with ⟨rfl,rfl,hl⟩ | ⟨z,h⟩
  ·exact hs
  ·exact S.sl j s h,S.ex⟩
abbrev Fl:=Addr × List V
def flE (i:Nat) (z:Fl) (ps:List PV) (N:Bj->Prop) (ρ:Bj):Prop:=ρ[i]? = some (.fl z ps)/\N (ρ.set i (.ow (.lst ps)))
def Agn (i:Nat) (u:US):US:=fun d ρ=>∃ ps,ρ[i]? = some (.ow (.lst ps))/\∀ z,u ⟨flE i z ps d.nx,d.rt,flE i z ps d.bk,flE i z ps d.ct⟩ (ρ.set i (.fl z ps))
theorem AfG {i:Nat} {t:TS} {u:US} (h:SU K C ω rm t u):SU K C ω rm t (Agn i u):=fun B G0 H0 own G σ H ρ D d S F ⟨ps,e,hu⟩=>by
 obtain ⟨a,ea,eo,vs,ha,l⟩:=S.sl i _ e
 have S1:=S.slot (s':=.fl (a,vs) ps) ⟨ea,eo,ha,l⟩
 have key:∀ (N:Bj->Prop) (M:St->Hp->Prop),(∀ own G σ H ρ,Sat K C ω B G0 H0 own G σ H ρ->N ρ->M σ H)->∀ own' G' σ' H' ρ',Sat K C ω B G0 H0 own' G' σ' H' ρ'->flE i (a,vs) ps N ρ'->M σ' H':=fun N M hM own' G' σ' H' ρ' S' ⟨e',h'⟩=>by
  obtain ⟨h1,h2,h3,h4⟩:=S'.sl i _ e'
  exact hM own' G' σ' _ _ (S'.slot (s':=.ow (.lst ps)) ⟨a,h1,h2,OwnA.ofL h3 h4⟩) h'
 exact h B G0 H0 own G σ _ _ _ ⟨flE i (a,vs) ps d.nx,d.rt,flE i (a,vs) ps d.bk,flE i (a,vs) ps d.ct⟩ S1 ⟨key d.nx D.nx F.nx,F.rt,key d.bk D.bk F.bk,key d.ct D.ct F.ct⟩ (hu (a,vs))
def AaH (i:Nat) (z:Fl) (ps:List PV) (ug:PV->Bj->(Bj->Prop)->Prop) (ub:US) (d:Fi) (ρ:Bj):Prop:=∃ I:Nat->Bj->Prop,I 0 ρ/\(∀ k ρ,I k ρ->ρ[i]? = some (.fl z ps))/\(∀ k p ρ,ps[k]? = some p->I k ρ->ug p ρ fun ρ'=>ub { d with nx:=I (k + 1),ct:=I (k + 1),bk:=d.nx } ρ')/\∀ ρ,I ps.length ρ->d.nx ρ
def AdF (i:Nat) (ug:PV->Bj->(Bj->Prop)->Prop) (ub:US):US:=fun d ρ=>∃ z ps,ρ[i]? = some (.fl z ps)/\AaH i z ps ug ub d ρ
theorem Aeu {top:Nat} {i:Nat} {g:TG} {ug:PV->Bj->(Bj->Prop)->Prop} {tb:TS} {ub:US} (hg:GU K C ω top g ug) (hb:SU K C ω rm tb ub):SU K C ω rm (Nv (Ri K (Fq i)) g tb) (AdF i ug ub) :=
 fun B G0 H0 own G σ H ρ D d S F ⟨z,ps,e,I,i0,iz,ist,iend⟩=>by
  obtain ⟨e1,e2,e3,e4⟩:=S.sl i _ e
  refine ⟨_,e1,z.1,rfl,⟨z.2,SqL.of e3⟩,Sh (xs:=z.2) (fun k σ' H'=>∃ own' G' ρ',Sat K C ω G G0 H0 own' G' σ' H' ρ'/\I k ρ') ⟨own,G,ρ,S.base (Same.refl _),i0⟩ (fun k σ' H' _ ⟨own',G',ρ',S',hi⟩=>SqL.of (S'.sl i _ (iz k ρ' hi)).2.2.1) (fun k x σ' H' hx ⟨own',G',ρ',S',hi⟩=>?_) fun σ' H' ⟨own',G',ρ',S',hi⟩=>?_⟩
  ·obtain ⟨q,hq,rq⟩:=LAt.get e4 hx
   exact hg G G0 H0 own' G' σ' H' ρ' x q _ _ S' (rq.mono S'.kb) (ist k q ρ' hq hi) fun own2 σ2 ρ2 S2 _ h2=>hb G G0 H0 own2 G' σ2 H' ρ2 _ _ S2 (Gx F S.kb fun own3 G3 σ3 H3 ρ3 S3 h3=>⟨own3,G3,ρ3,S3,h3⟩) h2
  ·rw [e4.1] at hi
   exact F.nx own' G' σ' H' ρ' (S'.base (S.kb.trans S'.kb)) (iend ρ' hi)
theorem Aho {i:Nat} {u:US} {d:Fi} {ρ:Bj} {ps:List PV} (h1:ρ[i]? = some (.ow (.lst ps))) (q:∀ z,u ⟨flE i z ps d.nx,d.rt,flE i z ps d.bk,flE i z ps d.ct⟩ (ρ.set i (.fl z ps))):Agn i u d ρ:=⟨ps,h1,q⟩
theorem AfL {i:Nat} {z:Fl} {ps:List PV} {ug:PV->Bj->(Bj->Prop)->Prop} {ub:US} {d:Fi} {ρ:Bj} (h1:ρ[i]? = some (.fl z ps)) (q:AaH i z ps ug ub d ρ):AdF i ug ub d ρ:=⟨z,ps,h1,q⟩
theorem AhF {i:Nat} {u:US} {d:Fi} {ρ:Bj} {kvs:List (Key × PV)} (h1:ρ[i]? = some (.ow (.dk kvs))) (q:∀ z,u (Wf i z kvs d) (ρ.set i (.fz z kvs))):AgO i u d ρ:=⟨kvs,h1,q⟩
theorem Afd {i:Nat} {z:Fz} {kvs:List (Key × PV)} {ug:PV->Bj->(Bj->Prop)->Prop} {ub:US} {d:Fi} {ρ:Bj} (h1:ρ[i]? = some (.fz z kvs)) (q:Xl i z kvs ug ub d ρ):Abq i ug ub d ρ:=⟨z,kvs,h1,q⟩
theorem Aei {i:Nat} {ub:UE} {ρ:Bj} {P:PV->Prop} {s:Sl} {kvs:List (Key × PV)} (h1:ρ[i]? = some s) (h2:s.fzv = some kvs) (q:ub ρ fun q=>Aab (.dk kvs) q P):AaN i ub ρ P:=⟨s,kvs,h1,h2,q⟩
end
theorem Yj {α:Type} {R:List α} {x s:α} {i:Nat} (h:(R ++ [x])[i]? = some s):R[i]? = some s\/(i = R.length/\s = x):=by
 by_cases hi:i < R.length
 ·rw [List.getElem?_append_left hi] at h; exact .inl h
 ·rw [List.getElem?_append_right (by omega)] at h
  have hz:i - R.length = 0:=by
   have:=(List.getElem?_eq_some_iff.mp h).1
   simp at this; omega
  rw [hz] at h
  simp at h
  exact .inr ⟨by omega,h.symm⟩
section
variable {S:Nat->Int} {R0 Mk R:List Sg} {J:List Jn} {k:Nat}
theorem Nh {J:List Jn} {n:Int} {k:Nat} (h:Fa J (jGo J k n) = none):∀ d,jGo J (k + d) n = jGo J k n
 | 0=>rfl
 | d + 1=>by
  show Ge J (jGo J (k + d) n) = _
  rw [Nh h d]
  unfold Ge
  rw [h]
end
structure AiQ (S:List Sg) (M:List (Int × Int)) (J:List Jn):Prop where
 so:∀ s ∈ S,Uu s
 mo:∀ m ∈ M,0 <= m.1/\0 <= m.2
 nd:(S.map (·.1) ++ Jb M).Nodup
 jo:Yo (kK S ++ kM M) J
 ln:S.length + 2 * M.length <= 60
 jl:J.length <= 7
 mr:∃ s ∈ S,s.2.1 = "mark"
section
variable {S:Nat->Int} {R0 Mk R:List Sg} {J:List Jn} {k x y t:Nat}
end
theorem Aa2 {kvs:List (Key × V)} {k:Key} {v:V} (h:Cg kvs k = some v):(k,v) ∈ kvs:=by
 unfold Cg at h
 obtain ⟨p,h1,h2⟩:=Option.map_eq_some_iff.mp h
 have e0:=List.find?_some h1
 have e:p.1 = k:=of_decide_eq_true e0
 have:p = (k,v):=Prod.ext e h2
 rw [<- this]
 exact List.mem_of_find?_eq_some h1
theorem Af1 {M:List (Int × Int)} {p:Key × V} (h:p ∈ kM M):p.2 = .str "open"\/p.2 = .str "shut":=by
 induction M with
 | nil=>cases h
 | cons x r ih =>
  rcases List.mem_cons.mp h with e | h
  ·rw [e]; exact .inl rfl
  ·rcases List.mem_cons.mp h with e | h
   ·rw [e]; exact .inr rfl
   ·exact ih h
theorem Ad7 (U:List Sg) (M:List (Int × Int)) (n:Int):(Cg (kK U ++ kM M) (Sum.inl n)).getD (.str "plain") = .str (Gq U M n):=by
 unfold Gq
 cases e:Cg (kK U ++ kM M) (Sum.inl n) with
 | none=>rfl
 | some v =>
  rcases List.mem_append.mp (Aa2 e) with h | h
  ·obtain ⟨s,_,z⟩:=List.mem_map.mp h
   have:V.str s.2.1 = v:=(Prod.mk.inj z).2
   rw [<- this]; rfl
  ·rcases Af1 h with z | z
   ·have z:v = .str "open":=z
    rw [z]; rfl
   ·have z:v = .str "shut":=z
    rw [z]; rfl
theorem AeL {U:List Sg} {M:List (Int × Int)} {n:Int} {k:Str} (h:(Cg (kK U ++ kM M) (Sum.inl n)).getD (.str "plain") = .str k):Gq U M n = k:=by
 rw [Ad7] at h
 exact V.str.inj h
def Dg (U:List Sg) (M:List (Int × Int)) (n:Int):Bool:=decide (Gq U M n = "mark")
def Lr (mk:Int->Bool) (gs:List (List Int)) (n:Int):List (List Int):=if gs = []\/mk n = false then gs ++ [[n]] else gs.dropLast ++ [gs.getLast?.getD [] ++ [n]]
def grp (mk:Int->Bool) (ts:List Int):List (List Int):=ts.foldl (Lr mk) []
theorem Wo (mk:Int->Bool) (ts:List Int) (n:Int):grp mk (ts ++ [n]) = Lr mk (grp mk ts) n:=by simp [grp]
theorem Oo {mk:Int->Bool} {gs:List (List Int)} {n:Int} (h:gs = []\/mk n = false):Lr mk gs n = gs ++ [[n]]:=if_pos h
theorem Rt {mk:Int->Bool} {gs:List (List Int)} {g:List Int} {n:Int} (h:mk n = true):Lr mk (gs ++ [g]) n = gs ++ [g ++ [n]]:=by
 unfold Lr
 rw [if_neg (by rintro (z | z); (simp at z); (rw [h] at z; cases z))]
 simp
theorem AeM {mk:Int->Bool} (P:List (List Int)->List Int->Prop) (h0:P [] []) (hs:∀ gs ts n,P gs ts->P (Lr mk gs n) (ts ++ [n])) (ts:List Int):P (grp mk ts) ts:=by
 have key:∀ (ts:List Int) (acc:List (List Int)) (pre:List Int),P acc pre->P (ts.foldl (Lr mk) acc) (pre ++ ts):=by
  intro ts
  induction ts with
  | nil=>intro acc pre h; rw [List.append_nil]; exact h
  | cons n r ih =>
   intro acc pre h
   have:=ih (Lr mk acc n) (pre ++ [n]) (hs acc pre n h)
   rw [List.append_assoc] at this
   exact this
 exact key ts [] [] h0
structure Adx (mk:Int->Bool) (gs:List (List Int)) (ts:List Int):Prop where
 fl:gs.flatten = ts
 ln:gs.length <= ts.length
 ne:∀ g ∈ gs,∃ n r,g = n :: r/\∀ m ∈ r,mk m = true
 hd:∀ (i:Nat) (g:List Int),gs[i]? = some g->0 < i->∃ n r,g = n :: r/\mk n = false
theorem Gd (mk:Int->Bool) (ts:List Int):Adx mk (grp mk ts) ts:=by
 refine AeM (Adx mk) ⟨rfl,Nat.le_refl _,(fun g h=>by cases h),(fun i g h=>by simp at h)⟩ (fun gs ts n h=>?_) ts
 by_cases z:gs = []\/mk n = false
 ·rw [Oo z]
  refine ⟨by rw [List.flatten_append,h.fl]; rfl,by have:=h.ln; simp; omega,fun g hg=>?_,fun i g e hi=>?_⟩
  ·rcases List.mem_append.mp hg with hg | hg
   ·exact h.ne g hg
   ·rw [List.mem_singleton.mp hg]; exact ⟨n,[],rfl,(fun m hm=>by cases hm)⟩
  ·rcases Yj e with e | ⟨e1,e2⟩
   ·exact h.hd i g e hi
   ·rcases z with z | z
    ·rw [z] at e1; rw [e1] at hi; exact absurd hi (Nat.lt_irrefl _)
    ·exact ⟨n,[],e2,z⟩
 ·rcases List.eq_nil_or_concat gs with e | ⟨gs',g',rfl⟩
  ·exact absurd (.inl e) z
  ·have hm:mk n = true:=by
    cases w:mk n with
    | true=>rfl
    | false=>exact absurd (.inr w) z
   rw [List.concat_eq_append] at h z ⊢
   rw [Rt hm]
   obtain ⟨a,r,eg,hr⟩:=h.ne g' (List.mem_append_right _ List.mem_cons_self)
   refine ⟨by rw [<- h.fl]; simp,by have:=h.ln; simp at this ⊢; omega,fun g hg=>?_,fun i g e hi=>?_⟩
   ·rcases List.mem_append.mp hg with hg | hg
    ·exact h.ne g (List.mem_append_left _ hg)
    ·rw [List.mem_singleton.mp hg,eg]
     refine ⟨a,r ++ [n],rfl,fun m hm'=>?_⟩
     rcases List.mem_append.mp hm' with w | w
     ·exact hr m w
     ·rw [List.mem_singleton.mp w]; exact hm
   ·rcases Yj e with e | ⟨e1,e2⟩
    ·have hlt:=(List.getElem?_eq_some_iff.mp e).1
     exact h.hd i g (by rw [List.getElem?_append_left hlt]; exact e) hi
    ·obtain ⟨n',r',q1,q2⟩:=h.hd i g' (by rw [e1]; simp) hi
     exact ⟨n',r' ++ [n],by rw [e2,q1]; rfl,q2⟩
def Oq (H:Hp) (x:V) (g:List Int):Prop:=∃ p,x = .ref p/\H p = some (.lst (g.map V.int))
theorem LAt.monoM {β α:Type} {R R':Hp->β->α->Prop} {H H':Hp} {xs:List β} {ys:List α} (h:LAt R H xs ys) (m:∀ x ∈ xs,∀ y,R H x y->R' H' x y):LAt R' H' xs ys:=⟨h.1,fun i x y e1 e2=>m x (List.mem_of_getElem? e1) y (h.2 i x y e1 e2)⟩
theorem LAt.lstS {H H':Hp} {xs:List V} {gs:List (List Int)} (h:LAt Oq H xs gs) (s:Same H H'):LAt Oq H' xs gs:=h.mono fun _ _ ⟨p,e,z⟩=>⟨p,e,s _ _ z⟩
theorem LAt.lstC {H H':Hp} {a:Addr} {xs:List V} {gs:List (List Int)} (h:LAt Oq H xs gs) (c:Chg a H H') (n:¬ V.ref a ∈ xs):LAt Oq H' xs gs :=
 h.monoM fun x hx y ⟨p,e,z⟩=>⟨p,e,c _ _ z (by intro w; subst w; rw [e] at hx; exact n hx)⟩
structure LLat (H:Hp) (l:Addr) (xs:List V) (gs:List (List Int)):Prop where
 li:H l = some (.lst xs)
 at':LAt Oq H xs gs
 nd:xs.Nodup
 no:¬ V.ref l ∈ xs
theorem LLat.same {H H':Hp} {l:Addr} {xs:List V} {gs:List (List Int)} (h:LLat H l xs gs) (s:Same H H'):LLat H' l xs gs:=⟨s _ _ h.li,h.at'.lstS s,h.nd,h.no⟩
theorem LAt.lstF {H:Hp} {a:Addr} {xs:List V} {gs:List (List Int)} (h:LAt Oq H xs gs) (ha:H a = none):¬ V.ref a ∈ xs:=fun z=>by
 obtain ⟨i,hi⟩:=List.getElem?_of_mem z
 obtain ⟨g,_,p,e,hp⟩:=h.get hi
 cases e
 rw [ha] at hp; cases hp
theorem LLat.push {H H2 H3 H4:Hp} {l p:Addr} {xs:List V} {gs:List (List Int)} {n:Int} (h:LLat H l xs gs) (hp:H p = none) (s:Same H H2) (c3:Chg l H2 H3) (e3:H3 l = some (.lst (xs ++ [.ref p]))) (c4:Chg p H3 H4) (e4:H4 p = some (.lst ([] ++ [.int n]))) :
  LLat H4 l (xs ++ [.ref p]) (gs ++ [[n]]):=by
 have nlp:l ≠ p:=Br h.li hp
 have nf:=h.at'.lstF hp
 refine ⟨c4 _ _ e3 nlp,LAt.snoc (((h.at'.lstS s).lstC c3 h.no).lstC c4 nf) ⟨p,rfl,e4⟩,?_,?_⟩
 ·refine List.nodup_append.mpr ⟨h.nd,by simp,fun x hx y hy e=>?_⟩
  rw [e,List.mem_singleton.mp hy] at hx
  exact nf hx
 ·intro z
  rcases List.mem_append.mp z with z | z
  ·exact h.no z
  ·exact nlp (V.ref.inj (List.mem_singleton.mp z))
theorem LLat.add {H H':Hp} {l p:Addr} {xs:List V} {gs:List (List Int)} {g:List Int} {n:Int} (h:LLat H l (xs ++ [.ref p]) (gs ++ [g])) (c:Chg p H H') (e:H' p = some (.lst (g.map V.int ++ [.int n]))):LLat H' l (xs ++ [.ref p]) (gs ++ [g ++ [n]]):=by
 have nlp:l ≠ p:=fun z=>h.no (by rw [z]; exact List.mem_append_right _ List.mem_cons_self)
 obtain ⟨n1,_,n3⟩:=List.nodup_append.mp h.nd
 have np:¬ V.ref p ∈ xs:=fun z=>n3 _ z _ List.mem_cons_self rfl
 have hl:xs.length = gs.length:=by have:=h.at'.1; simpa using this
 have h':LAt Oq H xs gs:=⟨hl,fun i x y e1 e2=>h.at'.2 i x y (by rw [List.getElem?_append_left (List.getElem?_eq_some_iff.mp e1).1]; exact e1) (by rw [List.getElem?_append_left (List.getElem?_eq_some_iff.mp e2).1]; exact e2)⟩
 exact ⟨c _ _ h.li nlp,LAt.snoc (h'.lstC c np) ⟨p,rfl,by rw [List.map_append]; exact e⟩,h.nd,h.no⟩
theorem LLat.last {H:Hp} {l:Addr} {xs:List V} {gs:List (List Int)} (h:LLat H l xs gs) (ne:¬ gs = []):∃ xs' p gs' g,xs = xs' ++ [V.ref p]/\gs = gs' ++ [g]/\H p = some (.lst (g.map V.int)):=by
 rcases List.eq_nil_or_concat gs with e | ⟨gs',g,rfl⟩
 ·exact absurd e ne
 ·rcases List.eq_nil_or_concat xs with e | ⟨xs',x,rfl⟩
  ·have:=h.at'.1; rw [e] at this; simp at this
  ·rw [List.concat_eq_append,List.concat_eq_append] at h
   have hl:xs'.length = gs'.length:=by have:=h.at'.1; simpa using this
   obtain ⟨p,e,hp⟩:=h.at'.2 xs'.length x g (by simp) (by rw [hl]; simp)
   exact ⟨xs',p,gs',g,by rw [List.concat_eq_append,e],List.concat_eq_append,hp⟩
theorem Wk {ts:List Int} {i:Nat} {x:V} (h:(ts.map V.int)[i]? = some x):∃ n,ts[i]? = some n/\x = .int n:=by
 rw [List.getElem?_map] at h
 obtain ⟨n,h1,h2⟩:=Option.map_eq_some_iff.mp h
 exact ⟨n,h1,h2.symm⟩
theorem Ab1 {κ:Type} [DecidableEq κ] {kvs:List (κ × PV)} {k:κ} {v:PV} (h:¬ k ∈ kvs.map (·.1)):Nn kvs k v = kvs ++ [(k,v)]:=by
 unfold Nn
 rw [if_neg]
 intro z
 obtain ⟨kv,h1,h2⟩:=List.any_eq_true.mp z
 exact h (List.mem_map.mpr ⟨kv,h1,of_decide_eq_true h2⟩)
section
variable {U:List Sg} {M:List (Int × Int)} {J:List Jn}
end
theorem Gk {α:Type} (l:List α) (x:α):L2.atI (l ++ [x]) (-1) = some x:=by
 unfold L2.atI ixN
 rw [if_neg (by omega),if_pos (by simp; omega)]
 show (l ++ [x])[_]? = _
 rw [show (-1 + ((l ++ [x]).length:Int)).toNat = l.length by simp; omega]
 simp
section
variable {U:List Sg} {M:List (Int × Int)} {J:List Jn}
def knW (U:List Sg) (M:List (Int × Int)):List Int->Str
 | []=>"plain"
 | n :: _=>if Dg U M n = true then "plain" else Gq U M n
end
section
variable {U:List Sg} {M:List (Int × Int)} {J:List Jn}
end
section
variable {U:List Sg} {M:List (Int × Int)} {J:List Jn}
end
section
variable {U:List Sg} {M:List (Int × Int)} {J:List Jn}
end
section
variable {U:List Sg} {M:List (Int × Int)} {J:List Jn}
end
def cM (ns:List Int) (k:Nat):Int:=if k < ns.length then (ns[k]?).getD 0 % 10 ^ 62 else 0
theorem Aht (ns:List Int) (k:Nat):0 <= cM ns k:=by
 unfold cM
 split
 ·exact Int.emod_nonneg _ (by decide)
 ·exact Int.le_refl _
def AfB:PSp:=fun ps P=>∃ ns k,ps = [.scr ns,.int (k:Nat)]/\ns.length <= 63/\P (.int (cM ns k))
def sgF (ns:List Int) (k:Nat):Int:=cM ns 0 % 10 ^ 29 + (1 + cM ns 1 % 100) * (k:Int) % 101 * (1 + cM ns 1 % 10 ^ 27)
theorem Na (ns:List Int) (k:Nat):0 <= sgF ns k:=by
 unfold sgF
 have h1:=Int.emod_nonneg (cM ns 0) (show (10:Int) ^ 29 ≠ 0 by decide)
 have h2:=Int.emod_nonneg ((1 + cM ns 1 % 100) * (k:Int)) (show (101:Int) ≠ 0 by decide)
 have h3:=Int.emod_nonneg (cM ns 1) (show (10:Int) ^ 27 ≠ 0 by decide)
 have h4:=Int.mul_nonneg h2 (show 0 <= 1 + cM ns 1 % 10 ^ 27 by omega)
 omega
theorem Acf:∀ m,m < 100->∀ i,i < 28->∀ j,j < i->((1 + m) * i) % 101 ≠ ((1 + m) * j) % 101:=by decide +kernel
theorem Gm (ns:List Int) {i j:Nat} (hi:i < 28) (hj:j < 28) (e:sgF ns i = sgF ns j):i = j:=by
 have key:∀ i j:Nat,i < 28->j < i->sgF ns i ≠ sgF ns j:=fun i j hi hj e=>by
  unfold sgF at e
  obtain ⟨m,hm⟩:=Int.eq_ofNat_of_zero_le (Int.emod_nonneg (cM ns 1) (show (100:Int) ≠ 0 by decide))
  have hm2:=Int.emod_lt_of_pos (cM ns 1) (show (0:Int) < 100 by decide)
  have h3:=Int.emod_nonneg (cM ns 1) (show (10:Int) ^ 27 ≠ 0 by decide)
  rw [hm] at e hm2
  have e2:(1 + (m:Int)) * (i:Int) % 101 * (1 + cM ns 1 % 10 ^ 27) = (1 + (m:Int)) * (j:Int) % 101 * (1 + cM ns 1 % 10 ^ 27):=by omega
  have e3:=Int.eq_of_mul_eq_mul_right (show (1 + cM ns 1 % 10 ^ 27) ≠ 0 by omega) e2
  refine Acf m (by omega) i hi j hj ?_
  have e4:(((1 + m) * i % 101:Nat):Int) = (((1 + m) * j % 101:Nat):Int):=by
   rw [Int.natCast_emod,Int.natCast_emod,Int.natCast_mul,Int.natCast_mul,Int.natCast_add]
   exact e3
  exact Int.ofNat.inj e4
 rcases Nat.lt_trichotomy i j with z | z | z
 ·exact absurd e.symm (key j i hj z)
 ·exact z
 ·exact absurd e (key i j hi z)
def AeA:PSp:=fun ps P=>∃ ns k,ps = [.scr ns,.int (k:Nat)]/\ns.length <= 63/\k < 28/\P (.int (sgF ns k))
def menuK:List Str:=["fore","back","num","blank","mark","forein","backin","out","plain","blank"]
def Dv:Nat->Int->List Str
 | 0,_=>[]
 | n + 1,c=>(menuK[(c % 10).toNat]?).getD "plain" :: Dv n (c / 10)
def kdH:List Str:=["fore","back","mark","mark","blank","num","forein","backin","out"]
def kdE:List Str:=["open","shut","open","shut","fore","fore","back","plain","num","blank","plain","plain"]
def kdL (ns:List Int):List Str:=kdH ++ Dv 7 (cM ns 2) ++ kdE
theorem Fh:∀ n c,(Dv n c).length = n
 | 0,_=>rfl
 | n + 1,c=>by rw [Dv,List.length_cons,Fh n]
theorem Ae1 (ns:List Int):(kdL ns).length = 28:=by
 unfold kdL; rw [List.length_append,List.length_append,Fh]; rfl
def kdF (ns:List Int) (k:Nat):Str:=((kdL ns)[k]?).getD "plain"
def La (ns:List Int):List Int:=[1,1 + cM ns 3 % 3,1 + cM ns 3 / 3 % (10 ^ 30 - 1)]
def mkN (ns:List Int) (k:Nat):Nat:=(((kdL ns).take k).filter fun (x:Str)=>decide (x = "mark")).length
def rkF (ns:List Int) (k:Nat):Int:=if kdF ns k = "mark" then ((La ns)[mkN ns k % 3]?).getD 0 else 0
def tdD (ns:List Int) (n:Nat):List (Key × PV):=(List.range n).map fun k=>(Sum.inl (sgF ns k),.tup [.str (kdF ns k),.int (rkF ns k)])
theorem Ya (ns:List Int) {k:Nat} (hk:k < 28):Nn (tdD ns k) (.inl (sgF ns k)) (.tup [.str (kdF ns k),.int (rkF ns k)]) = tdD ns (k + 1):=by
 rw [Ab1 (kvs:=tdD ns k) (fun z=>by
  unfold tdD at z
  rw [List.map_map] at z
  obtain ⟨j,hj,e⟩:=List.mem_map.mp z
  rw [List.mem_range] at hj
  have e2:sgF ns j = sgF ns k:=Sum.inl.inj e
  have:=Gm ns (by omega) hk e2
  omega)]
 unfold tdD
 rw [List.range_succ,List.map_append]; rfl
def AeW:PSp:=fun ps P=>∃ ns,ps = [.scr ns]/\ns.length <= 63/\P (.dk (tdD ns 28))
def mtL (ns:List Int):List (Int × Int):=[(sgF ns 16,sgF ns 17),(sgF ns 18,sgF ns 19)]
def jnI:List (Nat × Nat × Nat):=[(20,0,2),(21,20,3),(22,1,3),(23,26,2),(24,5,2),(25,4,3)]
theorem Qe:∀ t ∈ jnI,t.1 < 28/\t.2.1 < 28/\t.2.2 < 28:=by decide
def jnL (ns:List Int):List Jn:=jnI.map fun t=>(sgF ns t.1,sgF ns t.2.1,sgF ns t.2.2)
def unK:List Str:=["plain","open","shut"]
def usI (ns:List Int) (n:Nat):List Nat:=(List.range n).filter fun k=>decide (¬ kdF ns k ∈ unK)
def usL (ns:List Int) (n:Nat):List Sg:=(usI ns n).map fun k=>(sgF ns k,kdF ns k,rkF ns k)
theorem Ab9 (ns:List Int) (k:Nat):usI ns (k + 1) = usI ns k ++ (if kdF ns k ∈ unK then [] else [k]):=by
 unfold usI
 rw [List.range_succ,List.filter_append]
 by_cases h:kdF ns k ∈ unK
 ·rw [if_pos h,List.filter_cons_of_neg (by simp [h])]; rfl
 ·rw [if_neg h,List.filter_cons_of_pos (by simp [h])]; rfl
theorem So {ns:List Int} {n k:Nat} (h:k ∈ usI ns n):k < n/\¬ kdF ns k ∈ unK:=by
 unfold usI at h
 obtain ⟨h1,h2⟩:=List.mem_filter.mp h
 exact ⟨List.mem_range.mp h1,of_decide_eq_true h2⟩
theorem Ag9 (ns:List Int) (n:Nat):(usI ns n).Nodup:=List.Nodup.sublist List.filter_sublist List.nodup_range
theorem Xx (ns:List Int) (n:Nat):(usI ns n).length <= n:=by
 have:=List.length_filter_le (fun k=>decide (¬ kdF ns k ∈ unK)) (List.range n)
 rw [List.length_range] at this
 exact this
def elK:List Str:=["fore","back","num","blank","mark","forein","backin","out","plain","open","shut"]
theorem Vw:∀ n c,∀ x ∈ Dv n c,x ∈ elK
 | 0,_=>fun x h=>by cases h
 | n + 1,c=>fun x h=>by
  rw [Dv] at h
  rcases List.mem_cons.mp h with e | e
  ·have h1:=Int.emod_nonneg c (show (10:Int) ≠ 0 by decide)
   have h2:=Int.emod_lt_of_pos c (show (0:Int) < 10 by decide)
   rw [List.getElem?_eq_getElem (show (c % 10).toNat < menuK.length by show _ < 10; omega)] at e
   have:∀ y ∈ menuK,y ∈ elK:=by decide +kernel
   rw [e]; exact this _ (List.getElem_mem _)
  ·exact Vw n (c / 10) x e
theorem AgK (ns:List Int) (k:Nat):kdF ns k ∈ elK:=by
 unfold kdF
 cases e:(kdL ns)[k]? with
 | none=>show ("plain" : Str) ∈ elK; decide +kernel
 | some x =>
  have hx:=List.mem_of_getElem? e
  show x ∈ elK
  unfold kdL at hx
  rcases List.mem_append.mp hx with hx | hx
  ·rcases List.mem_append.mp hx with hx | hx
   ·have:∀ y ∈ kdH,y ∈ elK:=by decide +kernel
    exact this x hx
   ·exact Vw _ _ x hx
  ·have:∀ y ∈ kdE,y ∈ elK:=by decide +kernel
   exact this x hx
theorem Jz (ns:List Int) {k:Nat} (h:k < 9):kdF ns k = (kdH[k]?).getD "plain":=by
 unfold kdF kdL
 rw [List.getElem?_append_left (by rw [List.length_append,Fh]; show k < 9 + 7; omega),List.getElem?_append_left h]
theorem Ft (ns:List Int) {k:Nat} (h:16 <= k):kdF ns k = (kdE[k - 16]?).getD "plain":=by
 unfold kdF kdL
 rw [List.getElem?_append_right (by rw [List.length_append,Fh]; show 9 + 7 <= k; omega),List.length_append,Fh]; rfl
theorem Ab3 (ns:List Int):∀ x ∈ La ns,1 <= x:=by
 intro x hx
 have h3:=Aht ns 3
 have h1:=Int.emod_nonneg (cM ns 3) (show (3:Int) ≠ 0 by decide)
 have h2:=Int.emod_nonneg (cM ns 3 / 3) (show (10:Int) ^ 30 - 1 ≠ 0 by decide)
 simp only [La,List.mem_cons,List.not_mem_nil,or_false] at hx
 rcases hx with rfl | rfl | rfl <;> omega
theorem Agz (ns:List Int) (k:Nat):Sv (kdF ns k) (rkF ns k):=by
 unfold rkF
 by_cases h:kdF ns k = "mark"
 ·rw [if_pos h]
  have h3:mkN ns k % 3 < (La ns).length:=by show _ < 3; omega
  rw [List.getElem?_eq_getElem h3]
  exact .inl ⟨h,Ab3 ns _ (List.getElem_mem _)⟩
 ·rw [if_neg h]; exact .inr ⟨h,rfl⟩
theorem Ad6 {ns:List Int} {l:List Nat} (nd:l.Nodup) (h:∀ k ∈ l,k < 28):(l.map (sgF ns)).Nodup:=by
 induction l with
 | nil=>exact List.nodup_nil
 | cons x r ih =>
  obtain ⟨h1,h2⟩:=List.nodup_cons.mp nd
  refine List.nodup_cons.mpr ⟨fun z=>?_,ih h2 fun k hk=>h k (List.mem_cons_of_mem _ hk)⟩
  obtain ⟨j,hj,e⟩:=List.mem_map.mp z
  exact h1 (by rw [<- Gm ns (h j (List.mem_cons_of_mem _ hj)) (h x List.mem_cons_self) e]; exact hj)
theorem Xh (ns:List Int):(usL ns 28).map (·.1) ++ Jb (mtL ns) = (usI ns 28 ++ [16,17,18,19]).map (sgF ns):=by
 rw [List.map_append]
 unfold usL
 rw [List.map_map]; rfl
theorem Zj (ns:List Int):(usI ns 28 ++ [16,17,18,19]).Nodup/\∀ k ∈ usI ns 28 ++ [16,17,18,19],k < 28:=by
 have key:∀ k ∈ ([16,17,18,19]:List Nat),k < 28/\kdF ns k ∈ unK:=fun k hk=>by
  have:16 <= k/\k < 20:=by simp at hk; omega
  refine ⟨by omega,?_⟩
  rw [Ft ns this.1]
  have:∀ j:Nat,j < 4->(kdE[j]?).getD ("plain" : Str) ∈ unK:=by decide +kernel
  exact this _ (by omega)
 refine ⟨List.nodup_append.mpr ⟨Ag9 ns 28,by decide,fun a ha b hb e=>?_⟩,fun k hk=>?_⟩
 ·subst e; exact (So ha).2 (key a hb).2
 ·rcases List.mem_append.mp hk with hk | hk
  ·exact (So hk).1
  ·exact (key k hk).1
theorem Ade (ns:List Int):((usL ns 28).map (·.1) ++ Jb (mtL ns)).Nodup:=by
 rw [Xh]
 exact Ad6 (Zj ns).1 (Zj ns).2
theorem Adp (ns:List Int):((kK (usL ns 28) ++ kM (mtL ns)).map (·.1)).Nodup:=by
 rw [List.map_append,Sy,show (kK (usL ns 28)).map (·.1) = ((usL ns 28).map (·.1)).map Sum.inl by unfold kK; rw [List.map_map,List.map_map]; rfl,<- List.map_append]
 have nd:=Ade ns
 unfold List.Nodup at nd ⊢
 exact (List.pairwise_map).mpr (nd.imp fun h z=>h (Sum.inl.inj z))
theorem Ux (ns:List Int) {k:Nat} (hk:k < 28):knd (kK (usL ns 28) ++ kM (mtL ns)) (sgF ns k) = .str (kdF ns k):=by
 unfold knd
 by_cases h:kdF ns k ∈ unK
 ·by_cases h2:k ∈ ([16,17,18,19]:List Nat)
  ·have:(Sum.inl (sgF ns k),V.str (kdF ns k)) ∈ kM (mtL ns):=by
    simp only [List.mem_cons,List.not_mem_nil,or_false] at h2
    rcases h2 with rfl | rfl | rfl | rfl
    ·rw [Ft ns (by decide)]; exact .head _
    ·rw [Ft ns (by decide)]; exact .tail _ (.head _)
    ·rw [Ft ns (by decide)]; exact .tail _ (.tail _ (.head _))
    ·rw [Ft ns (by decide)]; exact .tail _ (.tail _ (.tail _ (.head _)))
   rw [Vr (Adp ns) (List.mem_append_right _ this)]; rfl
  ·have hp:kdF ns k = "plain":=by
    have h9:k < 9\/(9 <= k/\k < 16)\/20 <= k:=by
     simp only [List.mem_cons,List.not_mem_nil,or_false] at h2; omega
    rcases h9 with h9 | h9 | h9
    ·rw [Jz ns h9] at h
     have:∀ j:Nat,j < 9->¬ (kdH[j]?).getD ("plain" : Str) ∈ unK:=by decide +kernel
     exact absurd h (this k h9)
    ·have:kdF ns k ∈ menuK:=by
      have hm:∀ n c,∀ x ∈ Dv n c,x ∈ menuK:=fun n=>by
       induction n with
       | zero=>intro c x h; cases h
       | succ n ih =>
        intro c x h
        rw [Dv] at h
        rcases List.mem_cons.mp h with e | e
        ·have h1:=Int.emod_nonneg c (show (10:Int) ≠ 0 by decide)
         have h2:=Int.emod_lt_of_pos c (show (0:Int) < 10 by decide)
         rw [List.getElem?_eq_getElem (show (c % 10).toNat < menuK.length by show _ < 10; omega)] at e
         rw [e]; exact List.getElem_mem _
        ·exact ih (c / 10) x e
      unfold kdF kdL
      have hl:k - 9 < (Dv 7 (cM ns 2)).length:=by rw [Fh]; omega
      rw [List.getElem?_append_left (by rw [List.length_append,Fh]; show k < 9 + 7; omega),List.getElem?_append_right (by show 9 <= k; omega),show k - kdH.length = k - 9 from rfl,List.getElem?_eq_getElem hl]
      exact hm _ _ _ (List.getElem_mem _)
     have q:∀ x ∈ menuK,x ∈ unK->x = "plain":=by decide +kernel
     exact q _ this h
    ·rw [Ft ns (by omega)] at h ⊢
     have:∀ j:Nat,j < 12->4 <= j->(kdE[j]?).getD ("plain" : Str) ∈ unK->(kdE[j]?).getD ("plain" : Str) = ("plain" : Str):=by decide +kernel
     exact this (k - 16) (by omega) (by omega) h
   rw [hp,Gs]
   ·rfl
   ·rw [List.map_append,Sy,show (kK (usL ns 28)).map (·.1) = ((usL ns 28).map (·.1)).map Sum.inl by unfold kK; rw [List.map_map,List.map_map]; rfl,<- List.map_append,Xh]
    intro z
    obtain ⟨n,hn,e⟩:=List.mem_map.mp z
    obtain ⟨j,hj,e2⟩:=List.mem_map.mp hn
    have e3:sgF ns j = sgF ns k:=by rw [e2]; exact Sum.inl.inj e
    have:=Gm ns ((Zj ns).2 j hj) hk e3
    subst this
    rcases List.mem_append.mp hj with hj | hj
    ·exact (So hj).2 h
    ·exact h2 hj
 ·have:(Sum.inl (sgF ns k),V.str (kdF ns k)) ∈ kK (usL ns 28):=by
   unfold kK usL usI
   rw [List.map_map]
   exact List.mem_map.mpr ⟨k,List.mem_filter.mpr ⟨List.mem_range.mpr hk,decide_eq_true h⟩,rfl⟩
  rw [Vr (Adp ns) (List.mem_append_left _ this)]; rfl
theorem Wy (ns:List Int) {k:Nat} (hk:k < 28):Fa (jnL ns) (sgF ns k) = ((jnI.find? fun t=>decide (t.1 = k)).map fun t=>(sgF ns t.2.1,sgF ns t.2.2)):=by
 have e:∀ l:List (Nat × Nat × Nat),(∀ t ∈ l,t.1 < 28)->Fa (l.map fun t=>(sgF ns t.1,sgF ns t.2.1,sgF ns t.2.2)) (sgF ns k) = ((l.find? fun t=>decide (t.1 = k)).map fun t=>(sgF ns t.2.1,sgF ns t.2.2)):=by
  intro l
  induction l with
  | nil=>intro _; rfl
  | cons t r ih =>
   intro h
   rw [List.map_cons,Fa,List.find?_cons]
   by_cases z:t.1 = k
   ·rw [if_pos (by rw [z]),decide_eq_true z]; rfl
   ·rw [if_neg (fun w=>z (Gm ns (h t List.mem_cons_self) hk w)),decide_eq_false z]
    exact ih fun t ht=>h t (List.mem_cons_of_mem _ ht)
 exact e jnI fun t ht=>(Qe t ht).1
theorem Qo (ns:List Int) {k:Nat} (hk:k < 28) (h:(jnI.find? fun t=>decide (t.1 = k)) = none):Fa (jnL ns) (sgF ns k) = none:=by rw [Wy ns hk,h]; rfl
theorem Tg (ns:List Int) {k j m:Nat} (hk:k < 28) (h:(jnI.find? fun t=>decide (t.1 = k)) = some (k,j,m)):Ge (jnL ns) (sgF ns k) = sgF ns j:=by unfold Ge; rw [Wy ns hk,h]; rfl
theorem AhH (ns:List Int):AiQ (usL ns 28) (mtL ns) (jnL ns) where
 so:=fun s hs=>by
  obtain ⟨k,hk,rfl⟩:=List.mem_map.mp hs
  refine ⟨Na ns k,?_,Agz ns k⟩
  have h:=AgK ns k
  have h2:=(So hk).2
  have q:∀ x ∈ elK,¬ x ∈ unK->x ∈ toldK:=by decide +kernel
  exact q _ h h2
 mo:=fun m hm=>by
  simp only [mtL,List.mem_cons,List.not_mem_nil,or_false] at hm
  rcases hm with rfl | rfl <;> exact ⟨Na _ _,Na _ _⟩
 nd:=Ade ns
 jo:={
  nn:=fun j hj=>by
   obtain ⟨t,ht,rfl⟩:=List.mem_map.mp hj
   exact ⟨Na _ _,Na _ _,Na _ _⟩
  mr:=fun j hj=>by
   obtain ⟨t,ht,rfl⟩:=List.mem_map.mp hj
   rw [Ux ns (Qe t ht).2.2]
   have h23:∀ t ∈ jnI,t.2.2 = 2\/t.2.2 = 3:=by decide
   have:=h23 t ht
   rcases this with e | e
   ·rw [e,Jz ns (by decide)]; rfl
   ·rw [e,Jz ns (by decide)]; rfl
  kd:=fun j hj=>by
   obtain ⟨t,ht,rfl⟩:=List.mem_map.mp hj
   refine ⟨kdF ns t.1,?_,Ux ns (Qe t ht).1,?_⟩
   ·have h1:∀ t ∈ jnI,16 <= t.1/\(kdE[t.1 - 16]?).getD ("plain" : Str) ∈ joinedK:=by decide +kernel
    rw [Ft ns (h1 t ht).1]; exact (h1 t ht).2
   ·rw [Ux ns (Qe t ht).2.1]
    have h1:∀ t ∈ jnI,16 <= t.1:=by decide
    have h2:∀ t ∈ jnI,t.2.1 < 9->(kdH[t.2.1]?).getD ("plain" : Str) = (kdE[t.1 - 16]?).getD ("plain" : Str):=by decide +kernel
    have h3:∀ t ∈ jnI,16 <= t.2.1->(kdE[t.2.1 - 16]?).getD ("plain" : Str) = (kdE[t.1 - 16]?).getD ("plain" : Str):=by decide +kernel
    have h4:∀ t ∈ jnI,t.2.1 < 9\/16 <= t.2.1:=by decide
    rw [Ft ns (h1 t ht)]
    rcases h4 t ht with z | z
    ·rw [Jz ns z,h2 t ht z]
    ·rw [Ft ns z,h3 t ht z]
  nw:=by
   have:=Ad6 (ns:=ns) (l:=jnI.map (·.1)) (by decide) (by decide)
   rw [List.map_map] at this
   unfold jnL
   rw [List.map_map]; exact this
  np:=by
   unfold jnL
   rw [List.map_map]
   unfold List.Nodup
   refine List.pairwise_map.mpr ?_
   have h:jnI.Pairwise fun a b=>a.2 ≠ b.2:=by decide
   have h2:∀ t ∈ jnI,t.2.1 < 28/\t.2.2 < 28:=by decide
   refine h.imp_of_mem fun {a b} ha hb hab e=>hab ?_
   obtain ⟨e1,e2⟩:=Prod.mk.inj e
   exact Prod.ext (Gm ns (h2 a ha).1 (h2 b hb).1 e1) (Gm ns (h2 a ha).2 (h2 b hb).2 e2)
  en:=fun j hj=>by
   obtain ⟨t,ht,rfl⟩:=List.mem_map.mp hj
   have stay:∀ k,k < 28->(jnI.find? fun t=>decide (t.1 = k)) = none->Fa (jnL ns) (jGo (jnL ns) 7 (sgF ns k)) = none:=fun k hk h=>by
    have e:=Nh (J:=jnL ns) (n:=sgF ns k) (k:=0) (Qo ns hk h) 7
    rw [Nat.zero_add] at e
    rw [e]; exact Qo ns hk h
   have one:∀ k j m,k < 28->j < 28->(jnI.find? fun t=>decide (t.1 = k)) = some (k,j,m)->(jnI.find? fun t=>decide (t.1 = j)) = none->Fa (jnL ns) (jGo (jnL ns) 7 (sgF ns k)) = none:=fun k j m hk hj h1 h2=>by
    have e1:jGo (jnL ns) 1 (sgF ns k) = sgF ns j:=Tg ns hk h1
    have e:=Nh (J:=jnL ns) (n:=sgF ns k) (k:=1) (by rw [e1]; exact Qo ns hj h2) 6
    rw [show 1 + 6 = 7 from rfl] at e
    rw [e,e1]; exact Qo ns hj h2
   simp only [jnI,List.mem_cons,List.not_mem_nil,or_false] at ht
   rcases ht with rfl | rfl | rfl | rfl | rfl | rfl
   ·exact one 20 0 2 (by decide) (by decide) (by decide) (by decide)
   ·have e1:jGo (jnL ns) 2 (sgF ns 21) = sgF ns 0:=by
     show Ge _ (Ge _ (sgF ns 21)) = _
     rw [Tg ns (k:=21) (j:=20) (m:=3) (by decide) (by decide),Tg ns (k:=20) (j:=0) (m:=2) (by decide) (by decide)]
    have h0:=Qo ns (k:=0) (by decide) (by decide)
    have e:=Nh (J:=jnL ns) (n:=sgF ns 21) (k:=2) (by rw [e1]; exact h0) 5
    rw [show 2 + 5 = 7 from rfl] at e
    show Fa (jnL ns) (jGo (jnL ns) 7 (sgF ns 21)) = none
    rw [e,e1]; exact h0
   ·exact one 22 1 3 (by decide) (by decide) (by decide) (by decide)
   ·exact one 23 26 2 (by decide) (by decide) (by decide) (by decide)
   ·exact one 24 5 2 (by decide) (by decide) (by decide) (by decide)
   ·exact one 25 4 3 (by decide) (by decide) (by decide) (by decide)
  ln:=(show 6 <= 400 by decide) }
 ln:=by
  have h1:(usL ns 28).length = (usI ns 28).length:=List.length_map _
  have:=Xx ns 28
  show (usL ns 28).length + 2 * 2 <= 60
  omega
 jl:=(show 6 <= 7 by decide)
 mr:=⟨(sgF ns 2,kdF ns 2,rkF ns 2),by
  have h2:kdF ns 2 = "mark":=by rw [Jz ns (by decide)]; rfl
  refine ⟨List.mem_map.mpr ⟨2,List.mem_filter.mpr ⟨List.mem_range.mpr (by decide),?_⟩,rfl⟩,h2⟩
  rw [h2]; decide +kernel⟩
local macro_rules | `(tactic| walk_at "rd")=>`(tactic| repeat (first
 | with_reducible refine Zu ?_ | with_reducible refine AhR rfl ?_ | with_reducible refine i_c ?_ | with_reducible refine Air ?_ | with_reducible refine Ait ?_ | with_reducible refine Aiu ?_ | with_reducible refine Ahx ?_
 | with_reducible refine AdO ?_ | with_reducible refine Adt ?_ | with_reducible refine AdA ?_ | with_reducible refine Ac8 ?_ | with_reducible refine AiH ?_ | with_reducible refine Aha ?_ | with_reducible refine AhV ?_
 | with_reducible refine i_and ?_ | with_reducible refine AiO ?_ | with_reducible refine Aie ?_ | with_reducible refine AfM ?_ | with_reducible refine i_orV ?_ | with_reducible refine Afj ?_ | with_reducible refine i_isN ?_ | with_reducible refine i_notN ?_
 | with_reducible refine AiV ?_ | with_reducible refine AfZ ?_ | with_reducible refine Ahn ?_ | with_reducible refine i_retN ?_ | with_reducible refine Ais ?_ | with_reducible refine Aif ?_ | with_reducible refine Aej ?_
 | with_reducible refine Agd (SqT.of (by assumption)) rfl ?_ | with_reducible refine Ae0 ?_ | with_reducible refine Agb ?_ | with_reducible refine AfQ ?_ | with_reducible refine AgP ?_ | with_reducible refine i_make ?_
 | with_reducible refine AhP ?_ | with_reducible refine AgS ?_ | with_reducible refine i_lst ?_ | with_reducible refine AhD ?_ | with_reducible refine AhI ?_ | with_reducible refine AiM ?_ | with_reducible refine AhM ?_ | with_reducible refine AcM ?_
 | with_reducible refine Af0 ?_ | with_reducible refine i_dget1 ?_ | with_reducible refine AeX ?_ | with_reducible refine Afz ?_ | with_reducible refine Aga ?_ | with_reducible refine i_bm0 ?_ | with_reducible refine Ain ?_
 | with_reducible refine Af7 ?_ | with_reducible refine AgT ?_ | with_reducible refine i_sl ?_ | with_reducible refine i_noPart ?_ | with_reducible refine i_part ?_ | with_reducible refine i_exI ?_ | with_reducible refine i_ifE ?_ | with_reducible refine i_int1 ?_
 | with_reducible refine AfP ?_ | with_reducible refine AgV ?_
 | with_reducible refine Ja ?_ | with_reducible refine Gz ?_ | with_reducible refine Aaj ?_ | with_reducible refine iteNF ?_
 | with_reducible refine Acw ?_ | with_reducible refine AbA ?_ | with_reducible refine AcA ?_ | with_reducible refine AfO (by assumption) ?_ | with_reducible refine Ail (by assumption) ?_
 | with_reducible refine Abh (by assumption) ?_ | with_reducible refine Abh (SqL.of (by assumption)) ?_ | with_reducible refine AgL (by assumption) ?_ | with_reducible refine j_min ?_
 | with_reducible refine Ahv (by assumption) ?_ | with_reducible refine j_dnotin (by assumption) ?_ | with_reducible refine AbK (by assumption) ?_ ?_ | with_reducible refine AhL (by assumption) ?_ | with_reducible refine Ags (by assumption) ?_
 | with_reducible refine Aii (by assumption) ?_ | with_reducible refine j_append (by assumption) ?_ ?_ | with_reducible refine j_clear (by assumption) ?_
 | walk_at "u" | dsimp only [List.set,List.cons_append,List.nil_append,List.append_nil]))
local macro_rules | `(tactic| walk_at "cs")=>`(tactic| dsimp only [compσ,List.replicate,List.map_cons,List.map_nil,List.getElem?_cons_succ,List.getElem?_cons_zero,Option.join_some,List.cons_append,List.nil_append])
local macro_rules | `(tactic| walk_at "pr")=>`(tactic| repeat (first
 | with_reducible refine Adk ?_ | with_reducible refine AdH rfl rfl ?_ | with_reducible refine AbR rfl ?_ | with_reducible refine p_c ?_ | with_reducible refine Afy ?_ | with_reducible refine Afv ?_ | with_reducible refine p_i ?_ | with_reducible refine p_u ?_ | with_reducible refine b_u ?_
 | with_reducible refine AdE ?_ | with_reducible refine Ac5 ?_ | with_reducible refine Adu ?_ | with_reducible refine Ad4 ?_ | with_reducible refine b_neS ?_ | with_reducible refine p_isN ?_ | with_reducible refine p_notN ?_ | with_reducible refine p_b ?_ | with_reducible refine b_b ?_
 | with_reducible refine Adw ?_ | with_reducible refine AgY ?_ | with_reducible refine Ad2 ?_ | with_reducible refine AaC ?_ | with_reducible refine p_orV ?_ | with_reducible refine Aa4 ?_ | with_reducible refine p_ifE ?_
 | with_reducible refine Abk ?_ | with_reducible refine p_break ?_ | with_reducible refine p_cont ?_ | with_reducible refine Abv ?_ | with_reducible refine AcW ?_ | with_reducible refine Abe rfl ?_ | with_reducible refine p_retN ?_ | with_reducible refine Ag3 ?_ | with_reducible refine Ad1 ?_ | with_reducible refine AaW ?_ | with_reducible refine p_asg ?_
 | with_reducible refine Ye ?_ | with_reducible refine p_gTrip ?_ | with_reducible refine p_gPair ?_ | with_reducible refine p_gJn ?_ | with_reducible refine Abi rfl ?_ | with_reducible refine Xf ?_ | with_reducible refine AaK ?_
 | with_reducible refine AdN ?_ | with_reducible refine Abg ?_ | with_reducible refine AdL ?_ | with_reducible refine AdV ?_ | with_reducible refine Aea ?_ | with_reducible refine Ac6 ?_
 | with_reducible refine b_ix3a ?_ | with_reducible refine b_ix3b ?_ | with_reducible refine b_ix3c ?_ | with_reducible refine b_ix2a ?_ | with_reducible refine b_ix2b ?_ | with_reducible refine b_ixja ?_ | with_reducible refine b_ixjb ?_ | with_reducible refine b_ixjc ?_ | with_reducible refine AbV ?_ | with_reducible refine Abz ?_ | with_reducible refine b_ixt2 ?_
 | with_reducible refine p_noPart ?_ | with_reducible refine Aby ?_ | with_reducible refine Aal ?_ | with_reducible refine AdB ?_ | with_reducible refine b_slL ?_ | with_reducible refine AcZ ?_ | with_reducible refine p_slT ?_ | with_reducible refine Ac0 ?_ | with_reducible refine Adz ?_ ?_ | with_reducible refine Adc ?_ ?_ | with_reducible refine AdR ?_ ?_ | with_reducible refine Ad5 ?_ ?_ | with_reducible refine AdX ?_ ?_
 | with_reducible refine AgU ?_ | with_reducible refine Abm ?_ | with_reducible refine Aaw ?_ | with_reducible refine Aau ?_ | with_reducible refine b_min ?_ | with_reducible refine b_max ?_ | with_reducible refine b_intI ?_ | with_reducible refine Aa5 ?_ | with_reducible refine Xu ?_ | with_reducible refine b_listT ?_ | with_reducible refine b_listS ?_
 | with_reducible refine Adm rfl ?_ | with_reducible refine Adv rfl ?_ ?_ | with_reducible refine Yf rfl ?_ | with_reducible refine p_din ?_ | with_reducible refine b_din ?_ | with_reducible refine b_dnotin ?_ | with_reducible refine p_dget ?_ | with_reducible refine Xa rfl rfl ?_ | with_reducible refine Xz ?_ | with_reducible refine Aar rfl ?_ | with_reducible refine AaI rfl ?_ ?_
 | with_reducible refine AdP ?_ | with_reducible refine AdJ ?_ | with_reducible refine b_L ?_ | with_reducible refine b_S ?_ | with_reducible refine p_uiBb rfl ?_ | with_reducible refine p_uiBs rfl ?_ | with_reducible refine AbJ ?_ | with_reducible refine p_for2 ?_ | with_reducible refine AbQ ?_ | with_reducible refine p_compR ?_ | with_reducible refine Abl ?_
 | with_reducible refine AbC ?_ | with_reducible refine AdY ?_ | with_reducible refine p_eqT ?_ | with_reducible refine Afq ?_ | with_reducible refine Ac2 ?_ | with_reducible refine Abx ?_ | with_reducible refine b_isNL ?_ | with_reducible refine Abb ?_ | with_reducible refine Aas ?_ | with_reducible refine b_isSS ?_ | with_reducible refine AbF ?_ | with_reducible refine b_isBI ?_ | with_reducible refine b_isBB ?_ | with_reducible refine Ag0 ?_ ?_ | with_reducible refine b_R2 ?_ ?_ | with_reducible refine Wd ?_ | with_reducible refine AgW ?_ | with_reducible refine Af6 ?_ | with_reducible refine p_m2 ?_ | with_reducible refine Ag8 ?_ | with_reducible refine pf_dnew ?_
 | with_reducible refine p_callX ?_ | with_reducible refine p_raise ?_ | with_reducible refine p_try ?_ | with_reducible refine p_dropX ?_ | with_reducible refine p_setX ?_ | with_reducible refine p_ifX ?_ | with_reducible refine p_asU ?_ | with_reducible refine b_isX ?_ | with_reducible refine b_isXT ?_ | with_reducible refine p_ch ?_ | with_reducible refine p_last ?_ | with_reducible refine p_link ?_ | with_reducible refine b_abs ?_
 | with_reducible refine p_share rfl ?_
 | with_reducible refine Ja ?_ | with_reducible refine Gz ?_ | with_reducible refine Aaj ?_ | with_reducible refine iteNF ?_
 | walk_at "u" | dsimp only [List.set,List.cons_append,List.nil_append,List.append_nil,Wn]))
local macro_rules | `(tactic| walk_at "u")=>`(tactic| first | with_reducible refine p_ins rfl ?_ | with_reducible refine b_ins0 rfl ?_ ?_)
local macro_rules | `(tactic| walk_at "u")=>`(tactic| first | with_reducible refine p_ext rfl ?_ | with_reducible refine b_ext rfl ?_ ?_ | with_reducible refine p_sortK ?_ | with_reducible refine b_sortK (fun _ _=>?_) ?_ | with_reducible refine p_slS ?_ | with_reducible refine b_slSL ?_ (by decide) | with_reducible refine b_slSS ?_ (by decide) | with_reducible refine p_forE ?_ | with_reducible refine p_compE ?_ | with_reducible refine AfH ?_ | with_reducible refine p_minD ?_ | with_reducible refine p_dinT ?_ | with_reducible refine b_dinT ?_ | with_reducible refine p_dgetT ?_ | with_reducible refine p_dputT rfl ?_ | with_reducible refine b_dputT rfl ?_ ?_)
local macro_rules | `(tactic| walk_at "cp")=>`(tactic| dsimp only [compρ,List.replicate,List.map_cons,List.map_nil,List.getElem?_cons_succ,List.getElem?_cons_zero,Option.getD_some,boS,List.cons_append,List.nil_append])
local macro_rules | `(tactic| walk_at "u")=>`(tactic| first | with_reducible refine Abn ?_ | with_reducible refine b_ixL2 ?_ | with_reducible refine b_ixL3 ?_ | with_reducible refine p_rev ?_ | with_reducible refine b_rev ?_ | with_reducible refine AhZ ?_ ?_ | with_reducible refine b_LR2 ?_ ?_ ?_ | with_reducible refine p_for3 ?_ | with_reducible refine b_R3 ?_ ?_ | with_reducible refine p_forV ?_ | with_reducible refine p_idx ?_ | with_reducible refine b_all ?_ | with_reducible refine p_put rfl ?_ | with_reducible refine p_rep ?_ | with_reducible refine b_rep ?_ ?_ | with_reducible refine p_appT ?_ | with_reducible refine p_gLst rfl ?_ | with_reducible refine p_eqO ?_ | with_reducible refine b_lenDT ?_ | with_reducible refine b_dinP ?_ | with_reducible refine b_dputP rfl ?_ ?_ | with_reducible refine p_compT ?_ | with_reducible refine b_Tp ?_ | with_reducible refine b_TpP ?_ | with_reducible refine b_isTP ?_ | with_reducible refine b_lenP ?_ | with_reducible refine p_eqB ?_ | with_reducible refine b_eqB ?_ | with_reducible refine b_neB ?_)
local macro_rules | `(tactic| walk_at "sd")=>`(tactic| all_goals try first
 | ((with_reducible show (_:Int) < _); first | decide | omega | (simp only [List.length_map,List.length_replicate,List.length_range,List.length_append,List.length_reverse]; omega))
 | ((with_reducible show Yp _ _); exact ⟨by omega,by omega⟩)
 | ((with_reducible show Yz _ _); exact ⟨by decide,by decide,by decide⟩)
 | ((with_reducible show CMul _ _); first | exact .inr ⟨by omega,by omega⟩ | exact .inl ⟨by omega,by omega⟩)
 | ((with_reducible show (_:Nat) < _); first | omega | (simp only [List.length_map,List.length_replicate,List.length_range,List.length_append,List.length_reverse]; omega))
 | ((with_reducible show (_:Nat) <= _); first | omega | (simp only [List.length_map,List.length_replicate,List.length_range,List.length_append,List.length_reverse]; omega))
 | ((with_reducible show (_:Int) <= _/\_); first | omega | (simp only [List.length_map,List.length_replicate,List.length_range,List.length_append,List.length_reverse]; omega)))
local macro_rules | `(tactic| walk_at "u")=>`(tactic| first | with_reducible refine p_forZ ?_ | with_reducible refine b_LL ?_ | with_reducible refine p_compZ ?_ | with_reducible refine p_compV ?_ | with_reducible refine Acr ?_ | with_reducible refine p_dget2E ?_ | with_reducible refine b_isD ?_ | with_reducible refine p_aug rfl rfl ?_ | with_reducible refine p_inR ?_ | with_reducible refine b_any ?_ | with_reducible refine AhF rfl (fun z=>?_) | with_reducible refine Aei rfl rfl ?_ | with_reducible refine b_aug ?_)
local macro_rules | `(tactic| walk_at "px")=>`(tactic| repeat (first
 | with_reducible refine AdH rfl rfl ?_ | with_reducible refine AbR rfl ?_ | with_reducible refine p_c ?_ | with_reducible refine Afy ?_ | with_reducible refine Afv ?_ | with_reducible refine p_i ?_ | with_reducible refine p_u ?_ | with_reducible refine b_u ?_
 | with_reducible refine AdE ?_ | with_reducible refine Ac5 ?_ | with_reducible refine Adu ?_ | with_reducible refine Ad4 ?_ | with_reducible refine b_neS ?_ | with_reducible refine p_isN ?_ | with_reducible refine p_notN ?_ | with_reducible refine p_b ?_ | with_reducible refine b_b ?_
 | with_reducible refine Adw ?_ | with_reducible refine AgY ?_ | with_reducible refine Ad2 ?_ | with_reducible refine AaC ?_ | with_reducible refine p_orV ?_ | with_reducible refine Aa4 ?_ | with_reducible refine p_ifE ?_
 | with_reducible refine Abk ?_ | with_reducible refine p_break ?_ | with_reducible refine p_cont ?_ | with_reducible refine Abv ?_ | with_reducible refine AcW ?_ | with_reducible refine Abe rfl ?_ | with_reducible refine p_retN ?_ | with_reducible refine Ag3 ?_ | with_reducible refine Ad1 ?_ | with_reducible refine AaW ?_ | with_reducible refine p_asg ?_
 | with_reducible refine Ye ?_ | with_reducible refine p_gTrip ?_ | with_reducible refine p_gPair ?_ | with_reducible refine p_gJn ?_ | with_reducible refine Abi rfl ?_ | with_reducible refine Xf ?_ | with_reducible refine AaK ?_
 | with_reducible refine AdN ?_ | with_reducible refine Abg ?_ | with_reducible refine AdL ?_ | with_reducible refine AdV ?_ | with_reducible refine Aea ?_ | with_reducible refine Ac6 ?_
 | with_reducible refine b_ix3a ?_ | with_reducible refine b_ix3b ?_ | with_reducible refine b_ix3c ?_ | with_reducible refine b_ix2a ?_ | with_reducible refine b_ix2b ?_ | with_reducible refine b_ixja ?_ | with_reducible refine b_ixjb ?_ | with_reducible refine b_ixjc ?_ | with_reducible refine AbV ?_ | with_reducible refine Abz ?_ | with_reducible refine b_ixt2 ?_
 | with_reducible refine p_noPart ?_ | with_reducible refine Aby ?_ | with_reducible refine Aal ?_ | with_reducible refine AdB ?_ | with_reducible refine b_slL ?_ | with_reducible refine AcZ ?_ | with_reducible refine p_slT ?_ | with_reducible refine Ac0 ?_ | with_reducible refine Adz ?_ ?_ | with_reducible refine Adc ?_ ?_ | with_reducible refine AdR ?_ ?_ | with_reducible refine Ad5 ?_ ?_ | with_reducible refine AdX ?_ ?_
 | with_reducible refine AgU ?_ | with_reducible refine Abm ?_ | with_reducible refine Aaw ?_ | with_reducible refine Aau ?_ | with_reducible refine b_min ?_ | with_reducible refine b_max ?_ | with_reducible refine b_intI ?_ | with_reducible refine Aa5 ?_ | with_reducible refine Xu ?_ | with_reducible refine b_listT ?_ | with_reducible refine b_listS ?_
 | with_reducible refine Adm rfl ?_ | with_reducible refine Adv rfl ?_ ?_ | with_reducible refine Yf rfl ?_ | with_reducible refine p_din ?_ | with_reducible refine b_din ?_ | with_reducible refine b_dnotin ?_ | with_reducible refine p_dget ?_ | with_reducible refine Xa rfl rfl ?_ | with_reducible refine Xz ?_ | with_reducible refine Aar rfl ?_ | with_reducible refine AaI rfl ?_ ?_
 | with_reducible refine AdP ?_ | with_reducible refine AdJ ?_ | with_reducible refine b_L ?_ | with_reducible refine b_S ?_ | with_reducible refine p_uiBb rfl ?_ | with_reducible refine p_uiBs rfl ?_ | with_reducible refine AbJ ?_ | with_reducible refine p_for2 ?_ | with_reducible refine AbQ ?_ | with_reducible refine p_compR ?_ | with_reducible refine Abl ?_
 | with_reducible refine AbC ?_ | with_reducible refine AdY ?_ | with_reducible refine p_eqT ?_ | with_reducible refine Afq ?_ | with_reducible refine Ac2 ?_ | with_reducible refine Abx ?_ | with_reducible refine b_isNL ?_ | with_reducible refine Abb ?_ | with_reducible refine Aas ?_ | with_reducible refine b_isSS ?_ | with_reducible refine AbF ?_ | with_reducible refine b_isBI ?_ | with_reducible refine b_isBB ?_ | with_reducible refine Ag0 ?_ ?_ | with_reducible refine b_R2 ?_ ?_ | with_reducible refine Wd ?_ | with_reducible refine AgW ?_ | with_reducible refine Af6 ?_ | with_reducible refine p_m2 ?_ | with_reducible refine Ag8 ?_ | with_reducible refine pf_dnew ?_
 | with_reducible refine p_callX ?_ | with_reducible refine p_raise ?_ | with_reducible refine p_try ?_ | with_reducible refine p_dropX ?_ | with_reducible refine p_setX ?_ | with_reducible refine p_ifX ?_ | with_reducible refine p_asU ?_ | with_reducible refine b_isX ?_ | with_reducible refine b_isXT ?_ | with_reducible refine p_ch ?_ | with_reducible refine p_last ?_ | with_reducible refine p_link ?_ | with_reducible refine b_abs ?_
 | with_reducible refine p_share rfl ?_
 | with_reducible refine Ja ?_ | with_reducible refine Gz ?_ | with_reducible refine Aaj ?_ | with_reducible refine iteNF ?_
 | walk_at "u" | dsimp only [List.set,List.cons_append,List.nil_append,List.append_nil,Wn]))
section
variable {P:Program} {w:World} {K:PySem.W.Frag} {mg:Str->Option Value} {base:Heap} {t:Adr}
def Qj:Sp:=fun vs H Q _=>∃ b,vs = [.bl true,b]/\Q .non H
theorem Acj {b:Bool} {z:V} {H:Hp} {Q:VK} {E:XK} (q:Q .non H) (h:b = true):Qj [.bl b,z] H Q E:=⟨z,by rw [h],q⟩
theorem AbI {z:V} {H:Hp} {Q:VK} {E:XK} (q:Q .non H):Qj [.bl true,z] H Q E:=⟨z,rfl,q⟩
local macro_rules | `(tactic| walk_at "u")=>`(tactic| with_reducible refine Acj ?_ ?_)
local macro_rules | `(tactic| walk_at "u")=>`(tactic| with_reducible refine AbI ?_)
theorem Go (T:Txt K mg t):Binds K t.d_qc ["held","words"] []:=T.F_qc.binds (ps:=["held","words"]) fun _ _ _ _ _ _ us hl=>match us,hl with | [_,_],_=>rfl
theorem Fv (T:Txt K mg t):FnOk P w K mg base CX0 1 t.f_qc t.d_qc ["held","words"] (Qj):=by
 refine T.F_qc.ok Ah6 (fun vs H Q E h=>?_) (fun cdv A outer s H vs Q E hr h=>?_)
 ·obtain ⟨b,rfl,q⟩:=h
  rfl
 ·obtain ⟨b,rfl,q⟩:=h
  have hu:=Co hr
  have hu64:=hr.units
  refine ⟨_,(Bp (Dp (Jx (Lc (pv 0)))
    Uf
    Cz)),?_⟩
  try dsimp only [Cf,Bx]
  walk_at "rd"
  exact q
def Se:Sp:=fun vs H Q _=>∃ n,vs = [.int n]/\Q (.bl true) H
theorem AeS {n:Int} {H:Hp} {Q:VK} {E:XK} (q:Q (.bl true) H):Se [.int n] H Q E:=⟨n,rfl,q⟩
local macro_rules | `(tactic| walk_at "u")=>`(tactic| with_reducible refine AeS ?_)
theorem Ace (T:Txt K mg t):Binds K t.d_qa ["thing"] []:=T.F_qa.binds (ps:=["thing"]) fun _ _ _ _ _ _ us hl=>match us,hl with | [_],_=>rfl
theorem Aaa (T:Txt K mg t):FnOk P w K mg base CX0 1 t.f_qa t.d_qa ["thing"] (Se):=by
 refine T.F_qa.ok Ahl (fun vs H Q E h=>?_) (fun cdv A outer s H vs Q E hr h=>?_)
 ·obtain ⟨n,rfl,q⟩:=h
  rfl
 ·obtain ⟨n,rfl,q⟩:=h
  have hu:=Co hr
  have hu64:=hr.units
  refine ⟨_,(Bp (Cb (Ld (Cq (Fk) rfl T.z_isinstance PyProof.Rows.boot_isinstance (Ba (pv 0) (Ba (Fw (v:=.ty "int") rfl T.z_int PyProof.Rows.boot_int rfl) Bb))) (Lx (Abj (Cq (Fk) rfl T.z_isinstance PyProof.Rows.boot_isinstance (Ba (pv 0) (Ba (Fw (v:=.ty "bool") rfl T.z_bool PyProof.Rows.boot_bool rfl) Bb)))))))),?_⟩
  try dsimp only [Cf,Bx]
  walk_at "rd"
  exact q
def Yi:Sp:=fun vs H Q _=>∃ n,vs = [.int n]/\Q (.bl (decide (0 <= n))) H
theorem Ahe {n:Int} {H:Hp} {Q:VK} {E:XK} (q:Q (.bl (decide (0 <= n))) H):Yi [.int n] H Q E:=⟨n,rfl,q⟩
local macro_rules | `(tactic| walk_at "u")=>`(tactic| with_reducible refine Ahe ?_)
theorem Uw (T:Txt K mg t):Binds K t.d_qbj ["thing"] []:=T.F_qbj.binds (ps:=["thing"]) fun _ _ _ _ _ _ us hl=>match us,hl with | [_],_=>rfl
theorem Sm (T:Txt K mg t):FnOk P w K mg base CX0 2 t.f_qbj t.d_qbj ["thing"] (Yi):=by
 refine T.F_qbj.ok AgB (fun vs H Q E h=>?_) (fun cdv A outer s H vs Q E hr h=>?_)
 ·obtain ⟨n,rfl,q⟩:=h
  rfl
 ·obtain ⟨n,rfl,q⟩:=h
  have hu:=Co hr
  have hu64:=hr.units
  refine ⟨_,(Bp (Cb (Ld (Bm (Aaa T) (hr.mono (by decide)) rfl T.m_qa T.F_qa.kp (Ace T) .nil Bt (Ba (pv 0) Bb)) (Lx (Fm Adj (pv 0) Be (Ci _)))))),?_⟩
  try dsimp only [Cf,Bx]
  walk_at "rd"
  exact q
def Acm:Sp:=fun vs H Q _=>∃ a xs n,vs = [.ref a,.int n]/\H a = some (.lst xs)/\(∀ x ∈ xs,∃ b ys,x = .ref b/\H b = some (.tup ys)/\((ys.length:Nat):Int) = n)/\Q .non H
theorem AcV (T:Txt K mg t):Binds K t.d_qd ["rows","length"] []:=T.F_qd.binds (ps:=["rows","length"]) fun _ _ _ _ _ _ us hl=>match us,hl with | [_,_],_=>rfl
theorem Zh (T:Txt K mg t):FnOk P w K mg base CX0 2 t.f_qd t.d_qd ["rows","length"] (Acm):=by
 refine T.F_qd.ok sc_qd (fun vs H Q E h=>?_) (fun cdv A outer s H vs Q E hr h=>?_)
 ·obtain ⟨a,xs,n,rfl,hx,hr',q⟩:=h
  rfl
 ·obtain ⟨a,xs,n,rfl,hx,hr',q⟩:=h
  have hu:=Co hr
  have hu64:=hr.units
  refine ⟨_,(Bg (Ce (Bm (Fv T) (hr.mono (by decide)) rfl T.m_qc T.F_qc.kp (Go T) .nil Bt (Ba (Cq (Fk) rfl T.z_isinstance PyProof.Rows.boot_isinstance (Ba (pv 0) (Ba (Fw (v:=.ty "list") rfl T.z_list PyProof.Rows.boot_list rfl) Bb))) (Ba Bv Bb))))
   (Bp (Dn PassesOwn.never rfl (Dr (pv 0)) (Cd (i:=2) sc_qd.nd rfl (Or.inl rfl))
    (Bp (Ce (Bm (Fv T) (hr.mono (by decide)) rfl T.m_qc T.F_qc.kp (Go T) .nil Bt (Ba (Ld (Cq (Fk) rfl T.z_isinstance PyProof.Rows.boot_isinstance (Ba (pv 2) (Ba (Fw (v:=.ty "tuple") rfl T.z_tuple PyProof.Rows.boot_tuple rfl) Bb))) (Lx (Fm Ga (Cq (Jy) rfl T.z_len PySem.boot_len (Ba (pv 2) Bb)) (pv 1) (Ci _)))) (Ba Bv Bb)))))))),?_⟩
  try dsimp only [Cf,Bx]
  walk_at "rd"
  refine Gy rfl (SqL.of hx) (fun i σ H'=>∃ v,σ = [some (.ref a),some (.int n),v]/\H' = H) ⟨none,rfl,rfl⟩ (fun i σ H' _ ⟨_,_,e⟩=>by subst e; exact SqL.of hx) ?_ ?_
  ·rintro i x σ H' hi ⟨v,rfl,rfl⟩
   obtain ⟨b,ys,rfl,hy,hl⟩:=hr' x (List.mem_of_getElem? hi)
   walk_at "rd"
   ·exact ⟨_,rfl,rfl⟩
   ·exact decide_eq_true hl
  ·rintro σ H' ⟨v,rfl,rfl⟩
   exact q
theorem Aet {k:Str} (h:k ∈ toldK):inV (V.str k) [V.str "fore",V.str "back",V.str "num",V.str "blank",V.str "mark",V.str "forein",V.str "backin",V.str "out"] = true:=by
 have e:inV (V.str k) (toldK.map V.str) = true:=by
  unfold inV
  rw [List.any_map]
  exact List.any_eq_true.mpr ⟨k,h,by show (k == k) = true; exact beq_self_eq_true k⟩
 exact e
def Xn:Sp:=fun vs H Q _=>∃ k,vs = [.str k]/\k ∈ toldK/\Q (.bl true) H
theorem AgF {k:Str} {H:Hp} {Q:VK} {E:XK} (q:Q (.bl true) H) (h:k ∈ toldK):Xn [.str k] H Q E:=⟨k,rfl,h,q⟩
local macro_rules | `(tactic| walk_at "u")=>`(tactic| with_reducible refine AgF ?_ ?_)
theorem AiP (T:Txt K mg t):Binds K t.d_qf ["thing"] []:=T.F_qf.binds (ps:=["thing"]) fun _ _ _ _ _ _ us hl=>match us,hl with | [_],_=>rfl
theorem AhT (T:Txt K mg t):FnOk P w K mg base CX0 1 t.f_qf t.d_qf ["thing"] (Xn):=by
 refine T.F_qf.ok AhX (fun vs H Q E h=>?_) (fun cdv A outer s H vs Q E hr h=>?_)
 ·obtain ⟨k,rfl,hk,q⟩:=h
  rfl
 ·obtain ⟨k,rfl,hk,q⟩:=h
  have hu:=Co hr
  have hu64:=hr.units
  refine ⟨_,(Bp (Cb (Ld (Cq (Fk) rfl T.z_isinstance PyProof.Rows.boot_isinstance (Ba (pv 0) (Ba (Fw (v:=.ty "str") rfl T.z_str PyProof.Rows.boot_str rfl) Bb))) (Lx (Fm (Tx) (pv 0) (Te (v:=.ref t.a_TOLD_KINDS) rfl T.g_TOLD_KINDS rfl) rfl))))),?_⟩
  try dsimp only [Cf,Bx]
  walk_at "rd"
  refine ⟨_,_,rfl,.inr (T.q_TOLD_KINDS _),rfl,rfl,?_⟩
  rw [show (if false = true then !inV (V.str k) _ else inV (V.str k) [V.str "fore",V.str "back",V.str "num",V.str "blank",V.str "mark",V.str "forein",V.str "backin",V.str "out"]) = true from Aet hk]
  exact q
def Tt:Sp:=fun vs H Q _=>∃ k r,vs = [.str k,.int r]/\Sv k r/\Q (.bl true) H
theorem AcK {k:Str} {r:Int} {H:Hp} {Q:VK} {E:XK} (q:Q (.bl true) H) (h:Sv k r):Tt [.str k,.int r] H Q E:=⟨k,r,rfl,h,q⟩
local macro_rules | `(tactic| walk_at "u")=>`(tactic| with_reducible refine AcK ?_ ?_)
theorem AiE (T:Txt K mg t):Binds K t.d_qm ["kind","thing"] []:=T.F_qm.binds (ps:=["kind","thing"]) fun _ _ _ _ _ _ us hl=>match us,hl with | [_,_],_=>rfl
theorem Ahu (T:Txt K mg t):FnOk P w K mg base CX0 2 t.f_qm t.d_qm ["kind","thing"] (Tt):=by
 refine T.F_qm.ok Ah3 (fun vs H Q E h=>?_) (fun cdv A outer s H vs Q E hr h=>?_)
 ·obtain ⟨k,r,rfl,hk,q⟩:=h
  rfl
 ·obtain ⟨k,r,rfl,hk,q⟩:=h
  have hu:=Co hr
  have hu64:=hr.units
  refine ⟨_,(Bg (Dp (Jx (Lc (Bm (Aaa T) (hr.mono (by decide)) rfl T.m_qa T.F_qa.kp (Ace T) .nil Bt (Ba (pv 1) Bb))))
    (Bp (Cb Rc))
    Cz)
   (Bg (Dp (Ck Ga (pv 0) Bv (Ci _))
    (Bp (Cb (Fm Adj (pv 1) Be (Ci _))))
    Cz)
   (Bp (Cb (Fm Ga (pv 1) Be (Ci _)))))),?_⟩
  try dsimp only [Cf,Bx]
  walk_at "rd"
  refine Yq (fun h=>?_) (fun h=>?_)
  ·have h':k = "mark":=of_decide_eq_true h
   walk_at "rd"
   rcases hk with ⟨_,hr1⟩ | ⟨hn,_⟩
   ·rw [decide_eq_true hr1]; exact q
   ·exact absurd h' hn
  ·have h':¬ k = "mark":=fun z=>h (decide_eq_true z)
   walk_at "rd"
   rcases hk with ⟨hm,_⟩ | ⟨_,hr0⟩
   ·exact absurd hm h'
   ·rw [decide_eq_true hr0]; exact q
def Vj:Sp:=fun vs H Q _=>∃ d kvs n,vs = [.ref d,.int n]/\H d = some (.dK kvs)/\Q ((Cg kvs (.inl n)).getD (.str "plain")) H
theorem Ae2 {d:Addr} {kvs:List (Key × V)} {n:Int} {H:Hp} {Q:VK} {E:XK} (h:H d = some (.dK kvs)) (q:Q ((Cg kvs (.inl n)).getD (.str "plain")) H):Vj [.ref d,.int n] H Q E:=⟨d,kvs,n,rfl,h,q⟩
local macro_rules | `(tactic| walk_at "u")=>`(tactic| with_reducible refine Ae2 (by assumption) ?_)
theorem Za (T:Txt K mg t):Binds K t.d_qn ["kinds","sign"] []:=T.F_qn.binds (ps:=["kinds","sign"]) fun _ _ _ _ _ _ us hl=>match us,hl with | [_,_],_=>rfl
theorem Vb (T:Txt K mg t):FnOk P w K mg base CX0 1 t.f_qn t.d_qn ["kinds","sign"] (Vj):=by
 refine T.F_qn.ok AhW (fun vs H Q E h=>?_) (fun cdv A outer s H vs Q E hr h=>?_)
 ·obtain ⟨d,kvs,n,rfl,hd,q⟩:=h
  rfl
 ·obtain ⟨d,kvs,n,rfl,hd,q⟩:=h
  have hu:=Co hr
  have hu64:=hr.units
  refine ⟨_,(Bp (Cb (Ry hu (pv 0) (pv 1) Bv ⟨rfl,rfl,rfl,rfl⟩))),?_⟩
  try dsimp only [Cf,Bx]
  walk_at "rd"
  exact q
def AaT:Sp:=fun vs H Q _=>∃ d kvs n k,vs = [.ref d,.int n,.str k]/\H d = some (.dK kvs)/\0 <= n/\Cg kvs (Sum.inl n) = none/\kvs.length <= 1000/\Q .non (upd H d (.dK (Fn kvs (Sum.inl n) (.str k))))
theorem AhQ {d:Addr} {kvs:List (Key × V)} {n:Int} {k:Str} {H:Hp} {Q:VK} {E:XK} (h:H d = some (.dK kvs)) (q:Q .non (upd H d (.dK (kvs ++ [(Sum.inl n,.str k)])))) (hn:0 <= n) (hv:Cg kvs (Sum.inl n) = none) (hl:kvs.length <= 1000) :
  AaT [.ref d,.int n,.str k] H Q E:=⟨d,kvs,n,k,rfl,h,hn,hv,hl,by rw [Gr _ hv]; exact q⟩
local macro_rules | `(tactic| walk_at "u")=>`(tactic| with_reducible refine AhQ (by assumption) ?_ ?_ ?_ ?_)
theorem Zn (T:Txt K mg t):Binds K t.d_qbc ["kinds","sign","kind"] []:=T.F_qbc.binds (ps:=["kinds","sign","kind"]) fun _ _ _ _ _ _ us hl=>match us,hl with | [_,_,_],_=>rfl
theorem Vd (T:Txt K mg t):FnOk P w K mg base CX0 3 t.f_qbc t.d_qbc ["kinds","sign","kind"] (AaT):=by
 refine T.F_qbc.ok Agu (fun vs H Q E h=>?_) (fun cdv A outer s H vs Q E hr h=>?_)
 ·obtain ⟨d,kvs,n,k,rfl,hd,hn,hv,hl,q⟩:=h
  rfl
 ·obtain ⟨d,kvs,n,k,rfl,hd,hn,hv,hl,q⟩:=h
  have hu:=Co hr
  have hu64:=hr.units
  refine ⟨_,(Bg (Ce (Bm (Fv T) (hr.mono (by decide)) rfl T.m_qc T.F_qc.kp (Go T) .nil Bt (Ba (Bm (Sm T) (hr.mono (by decide)) rfl T.m_qbj T.F_qbj.kp (Uw T) .nil Bt (Ba (pv 1) Bb)) (Ba Bv Bb))))
   (Bg (Ce (Bm (Fv T) (hr.mono (by decide)) rfl T.m_qc T.F_qc.kp (Go T) .nil Bt (Ba (Ss (Ln hu (pv 1) (pv 0))) (Ba Bv Bb))))
   (Bp (Gp hu (pv 0) (pv 1) (pv 2) rfl)))),?_⟩
  try dsimp only [Cf,Bx]
  walk_at "rd"
  ·exact q
  ·exact Fj hl
  ·rw [hv]; rfl
  ·exact decide_eq_true hn
def AcE:Sp:=fun vs H Q _=>∃ a b xs ys signs mates,vs = [.ref a,.ref b]/\H a = some (.lst xs)/\H b = some (.lst ys)/\LAt TripAt H xs signs/\LAt PairAt H ys mates/\(∀ s ∈ signs,Uu s)/\(∀ m ∈ mates,0 <= m.1/\0 <= m.2) /\
 (signs.map (·.1) ++ Jb mates).Nodup/\signs.length + 2 * mates.length <= 900/\∀ d,H d = none->Q (.ref d) (upd H d (.dK (kK signs ++ kM mates)))
theorem AiS (T:Txt K mg t):Binds K t.d_qo ["signs","mates"] []:=T.F_qo.binds (ps:=["signs","mates"]) fun _ _ _ _ _ _ us hl=>match us,hl with | [_,_],_=>rfl
theorem AhN (T:Txt K mg t):FnOk P w K mg base CX0 4 t.f_qo t.d_qo ["signs","mates"] (AcE):=by
 refine T.F_qo.ok sc_qo (fun vs H Q E h=>?_) (fun cdv A outer s H vs Q E hr h=>?_)
 ·obtain ⟨a,b,xs,ys,signs,mates,rfl,ha,hb,ls,lm,so,mo,nd,hl,q⟩:=h
  rfl
 ·obtain ⟨a,b,xs,ys,signs,mates,rfl,ha,hb,ls,lm,so,mo,nd,hl,q⟩:=h
  have hu:=Co hr
  have hu64:=hr.units
  refine ⟨_,(Bg (Bz (i:=2) sc_qo.nd rfl (Or.inl rfl) Jw)
   (Bg (Dn PassesOwn.never rfl (Dr (pv 0)) (Lg rfl (Ct (Cd (i:=3) sc_qo.nd rfl (Or.inl rfl)) (Ct (Cd (i:=4) sc_qo.nd rfl (Or.inl rfl)) (Ct (Cd (i:=5) sc_qo.nd rfl (Or.inl rfl)) Gj))))
    (Bg (Ce (Bm (Fv T) (hr.mono (by decide)) rfl T.m_qc T.F_qc.kp (Go T) .nil Bt (Ba (Bm (AhT T) (hr.mono (by decide)) rfl T.m_qf T.F_qf.kp (AiP T) .nil Bt (Ba (pv 4) Bb)) (Ba Bv Bb))))
   (Bg (Ce (Bm (Fv T) (hr.mono (by decide)) rfl T.m_qc T.F_qc.kp (Go T) .nil Bt (Ba (Bm (Ahu T) (hr.mono (by decide)) rfl T.m_qm T.F_qm.kp (AiE T) .nil Bt (Ba (pv 4) (Ba (pv 5) Bb))) (Ba Bv Bb))))
   (Bp (Ce (Bm (Vd T) (hr.mono (by decide)) rfl T.m_qbc T.F_qbc.kp (Zn T) .nil Bt (Ba (pv 2) (Ba (pv 3) (Ba (pv 4) Bb)))))))))
   (Bg (Dn PassesOwn.never rfl (Dr (pv 1)) (Lg rfl (Ct (Cd (i:=6) sc_qo.nd rfl (Or.inl rfl)) (Ct (Cd (i:=7) sc_qo.nd rfl (Or.inl rfl)) Gj)))
    (Bg (Ce (Bm (Vd T) (hr.mono (by decide)) rfl T.m_qbc T.F_qbc.kp (Zn T) .nil Bt (Ba (pv 2) (Ba (pv 6) (Ba Bv Bb)))))
   (Bp (Ce (Bm (Vd T) (hr.mono (by decide)) rfl T.m_qbc T.F_qbc.kp (Zn T) .nil Bt (Ba (pv 2) (Ba (pv 7) (Ba Bv Bb))))))))
   (Bp (Cb (pv 2)))))),?_⟩
  try dsimp only [Cf,Bx]
  walk_at "rd"
  intro d hd
  walk_at "rd"
  have nda:a ≠ d:=Br ha hd
  have ndb:b ≠ d:=Br hb hd
  have ndk:((kK signs ++ kM mates).map (·.1)).Nodup:=by rw [List.map_append,Sy,show (kK signs).map (·.1) = (signs.map (·.1)).map Sum.inl by simp [kK],<- List.map_append]; exact Qs nd
  refine Gy rfl (SqL.of (xs:=xs) (by rw [Bi nda]; exact ha)) (fun i σ H'=>∃ v3 v4 v5,σ = [some (.ref a),some (.ref b),some (.ref d),v3,v4,v5,none,none]/\H' = upd H d (.dK (kK (signs.take i)))) ⟨none,none,none,rfl,rfl⟩ (fun i σ H' _ ⟨_,_,_,_,e⟩=>by subst e; exact SqL.of (by rw [Bi nda]; exact ha)) ?_ ?_
  ·rintro i x σ H' hi ⟨v3,v4,v5,rfl,rfl⟩
   obtain ⟨s,es,p,rfl,hp⟩:=ls.get hi
   have hp':(upd H d (.dK (kK (signs.take i)))) p = some (.tup [.int s.1,.str s.2.1,.int s.2.2]):=by rw [Bi (Br hp hd)]; exact hp
   have hd':(upd H d (.dK (kK (signs.take i)))) d = some (.dK (kK (signs.take i))):=Bq
   have ok:=so s (List.mem_of_getElem? es)
   have et:=Dd es
   have hlt:i < signs.length:=(List.getElem?_eq_some_iff.mp es).1
   walk_at "rd"
   ·refine ⟨_,_,_,rfl,?_⟩
    rw [Ff,et]
    simp [kK]
   ·exact ok.nn
   ·refine Gs fun m=>?_
    have q1:(kK signs ++ kM mates) = kK (signs.take i) ++ ((Sum.inl s.1,V.str s.2.1) :: (kK (signs.drop (i + 1)) ++ kM mates)):=by
     rw [<- List.cons_append,<- List.append_assoc]
     congr 1
     rw [show ((Sum.inl s.1,V.str s.2.1) :: kK (signs.drop (i + 1)):List (Key × V)) = kK (s :: signs.drop (i + 1)) from rfl,kK,kK,kK,<- List.map_append]
     congr 1
     rw [<- List.take_append_drop i signs]
     congr 1
     ·simp
     ·rw [List.take_append_drop,List.drop_eq_getElem_cons hlt]
      have:=List.getElem?_eq_getElem hlt
      rw [es] at this
      rw [Option.some.inj this]
    rw [q1,List.map_append,List.map_cons] at ndk
    exact (List.nodup_append.mp ndk).2.2 _ m _ List.mem_cons_self rfl
   ·have:(kK (signs.take i)).length <= signs.length:=by simp [kK]; omega
    omega
   ·exact ok.rk
   ·exact ok.kd
  ·rintro σ H' ⟨v3,v4,v5,rfl,rfl⟩
   rw [ls.1,List.take_length]
   refine Zu ?_
   refine Gy rfl (SqL.of (xs:=ys) (by rw [Bi ndb]; exact hb)) (fun i σ H'=>∃ v3 v4 v5 v6 v7,σ = [some (.ref a),some (.ref b),some (.ref d),v3,v4,v5,v6,v7]/\H' = upd H d (.dK (kK signs ++ kM (mates.take i)))) ⟨_,_,_,_,_,rfl,by simp [kM]⟩ (fun i σ H' _ ⟨_,_,_,_,_,_,e⟩=>by subst e; exact SqL.of (by rw [Bi ndb]; exact hb)) ?_ ?_
   ·rintro i x σ H' hi ⟨v3,v4,v5,v6,v7,rfl,rfl⟩
    obtain ⟨m,em,p,rfl,hp⟩:=lm.get hi
    have hp':(upd H d (.dK (kK signs ++ kM (mates.take i)))) p = some (.tup [.int m.1,.int m.2]):=by rw [Bi (Br hp hd)]; exact hp
    have hd':(upd H d (.dK (kK signs ++ kM (mates.take i)))) d = some (.dK (kK signs ++ kM (mates.take i))):=Bq
    have ok:=mo m (List.mem_of_getElem? em)
    have et:=Dd em
    have hlt:i < mates.length:=(List.getElem?_eq_some_iff.mp em).1
    have q1:kK signs ++ kM mates = kK signs ++ kM (mates.take i) ++ ((Sum.inl m.1,V.str "open") :: (Sum.inl m.2,V.str "shut") :: kM (mates.drop (i + 1))):=by
     rw [List.append_assoc]
     congr 1
     rw [show ((Sum.inl m.1,V.str "open") :: (Sum.inl m.2,V.str "shut") :: kM (mates.drop (i + 1)):List (Key × V)) = kM (m :: mates.drop (i + 1)) from rfl,<- Uk]
     congr 1
     have:=List.getElem?_eq_getElem hlt
     rw [em] at this
     rw [Option.some.inj this,<- List.drop_eq_getElem_cons hlt,List.take_append_drop]
    rw [q1,List.map_append,List.map_cons,List.map_cons] at ndk
    have nd1:=(List.nodup_append.mp ndk).2.2
    have nd2:=(List.nodup_append.mp ndk).2.1
    have hlen:(kK signs ++ kM (mates.take i)).length + 1 <= 1000:=by
     rw [List.length_append,Ag7,List.length_take]; simp only [kK,List.length_map]; omega
    walk_at "rd"
    have hd2:(upd (upd H d (.dK (kK signs ++ kM (mates.take i)))) d (.dK (kK signs ++ kM (mates.take i) ++ [(Sum.inl m.1,.str "open")]))) d = some (.dK (kK signs ++ kM (mates.take i) ++ [(Sum.inl m.1,.str "open")])):=Bq
    walk_at "rd"
    ·refine ⟨_,_,_,_,_,rfl,?_⟩
     rw [Ff,Ff,et,Uk]
     simp [kM]
    ·exact ok.2
    ·refine Gs fun z=>?_
     rw [List.map_append,List.mem_append] at z
     rcases z with z | z
     ·exact nd1 _ z _ (List.mem_cons_of_mem _ List.mem_cons_self) rfl
     ·have e:(Sum.inl m.2:Key) = Sum.inl m.1:=List.mem_singleton.mp z
      have nd3:=(List.nodup_cons.mp nd2).1
      exact nd3 (List.mem_cons.mpr (.inl e.symm))
    ·rw [List.length_append]; exact hlen
    ·exact ok.1
    ·exact Gs fun z=>nd1 _ z _ List.mem_cons_self rfl
    ·omega
   ·rintro σ H' ⟨v3,v4,v5,v6,v7,rfl,rfl⟩
    rw [lm.1,List.take_length]
    walk_at "rd"
    exact q d hd
def AcS:Sp:=fun vs H Q _=>∃ a xs signs,vs = [.ref a]/\H a = some (.lst xs)/\LAt TripAt H xs signs/\(signs.map (·.1)).Nodup/\signs.length <= 900/\∀ d,H d = none->Q (.ref d) (upd H d (.dK (kR signs)))
theorem Aip (T:Txt K mg t):Binds K t.d_qr ["signs"] []:=T.F_qr.binds (ps:=["signs"]) fun _ _ _ _ _ _ us hl=>match us,hl with | [_],_=>rfl
theorem Ahm (T:Txt K mg t):FnOk P w K mg base CX0 1 t.f_qr t.d_qr ["signs"] (AcS):=by
 refine T.F_qr.ok sc_qr (fun vs H Q E h=>?_) (fun cdv A outer s H vs Q E hr h=>?_)
 ·obtain ⟨a,xs,signs,rfl,ha,ls,nd,hl,q⟩:=h
  rfl
 ·obtain ⟨a,xs,signs,rfl,ha,ls,nd,hl,q⟩:=h
  have hu:=Co hr
  have hu64:=hr.units
  refine ⟨_,(Bg (Bz (i:=1) sc_qr.nd rfl (Or.inl rfl) Jw)
   (Bg (Dn PassesOwn.never rfl (Dr (pv 0)) (Lg rfl (Ct (Cd (i:=2) sc_qr.nd rfl (Or.inl rfl)) (Ct (Cd (i:=3) sc_qr.nd rfl (Or.inl rfl)) (Ct (Cd (i:=4) sc_qr.nd rfl (Or.inl rfl)) Gj))))
    (Bp (Gp hu (pv 1) (pv 2) (pv 4) rfl)))
   (Bp (Cb (pv 1))))),?_⟩
  try dsimp only [Cf,Bx]
  walk_at "rd"
  intro d hd
  walk_at "rd"
  have nda:a ≠ d:=Br ha hd
  have ndk:((kR signs).map (·.1)).Nodup:=by rw [show (kR signs).map (·.1) = (signs.map (·.1)).map Sum.inl by simp [kR]]; exact Qs nd
  refine Gy rfl (SqL.of (xs:=xs) (by rw [Bi nda]; exact ha)) (fun i σ H'=>∃ v3 v4 v5,σ = [some (.ref a),some (.ref d),v3,v4,v5]/\H' = upd H d (.dK (kR (signs.take i)))) ⟨none,none,none,rfl,rfl⟩ (fun i σ H' _ ⟨_,_,_,_,e⟩=>by subst e; exact SqL.of (by rw [Bi nda]; exact ha)) ?_ ?_
  ·rintro i x σ H' hi ⟨v3,v4,v5,rfl,rfl⟩
   obtain ⟨s,es,p,rfl,hp⟩:=ls.get hi
   have hp':(upd H d (.dK (kR (signs.take i)))) p = some (.tup [.int s.1,.str s.2.1,.int s.2.2]):=by rw [Bi (Br hp hd)]; exact hp
   have hd':(upd H d (.dK (kR (signs.take i)))) d = some (.dK (kR (signs.take i))):=Bq
   have et:=Dd es
   have hlt:i < signs.length:=(List.getElem?_eq_some_iff.mp es).1
   have hno:Cg (kR (signs.take i)) (Sum.inl s.1) = none:=by
    refine Gs fun m=>?_
    have q1:kR signs = kR (signs.take i) ++ ((Sum.inl s.1,V.int s.2.2) :: kR (signs.drop (i + 1))):=by
     rw [show ((Sum.inl s.1,V.int s.2.2) :: kR (signs.drop (i + 1)):List (Key × V)) = kR (s :: signs.drop (i + 1)) from rfl,kR,kR,kR,<- List.map_append]
     congr 1
     have:=List.getElem?_eq_getElem hlt
     rw [es] at this
     rw [Option.some.inj this,<- List.drop_eq_getElem_cons hlt,List.take_append_drop]
    rw [q1,List.map_append,List.map_cons] at ndk
    exact (List.nodup_append.mp ndk).2.2 _ m _ List.mem_cons_self rfl
   walk_at "rd"
   ·refine ⟨_,_,_,rfl,?_⟩
    rw [Ff,et,Gr _ hno]
    simp [kR]
   ·have:(kR (signs.take i)).length <= signs.length:=by simp [kR]; omega
    exact Fj (by omega)
  ·rintro σ H' ⟨v3,v4,v5,rfl,rfl⟩
   rw [ls.1,List.take_length]
   walk_at "rd"
   exact q d hd
def AeU:Sp:=fun vs H Q _=>∃ b ys mates,vs = [.ref b]/\H b = some (.lst ys)/\LAt PairAt H ys mates/\(Jb mates).Nodup/\mates.length <= 400/\∀ d,H d = none->Q (.ref d) (upd H d (.dK (kB mates)))
theorem AiJ (T:Txt K mg t):Binds K t.d_qw ["mates"] []:=T.F_qw.binds (ps:=["mates"]) fun _ _ _ _ _ _ us hl=>match us,hl with | [_],_=>rfl
theorem Aia (T:Txt K mg t):FnOk P w K mg base CX0 1 t.f_qw t.d_qw ["mates"] (AeU):=by
 refine T.F_qw.ok sc_qw (fun vs H Q E h=>?_) (fun cdv A outer s H vs Q E hr h=>?_)
 ·obtain ⟨b,ys,mates,rfl,hb,lm,nd,hl,q⟩:=h
  rfl
 ·obtain ⟨b,ys,mates,rfl,hb,lm,nd,hl,q⟩:=h
  have hu:=Co hr
  have hu64:=hr.units
  refine ⟨_,(Bg (Bz (i:=1) sc_qw.nd rfl (Or.inl rfl) Jw)
   (Bg (Dn PassesOwn.never rfl (Dr (pv 0)) (Lg rfl (Ct (Cd (i:=2) sc_qw.nd rfl (Or.inl rfl)) (Ct (Cd (i:=3) sc_qw.nd rfl (Or.inl rfl)) Gj)))
    (Bg (Gp hu (pv 1) (pv 2) (pv 3) rfl)
   (Bp (Gp hu (pv 1) (pv 3) (pv 2) rfl))))
   (Bp (Cb (pv 1))))),?_⟩
  try dsimp only [Cf,Bx]
  walk_at "rd"
  intro d hd
  walk_at "rd"
  have ndb:b ≠ d:=Br hb hd
  have ndk:((kB mates).map (·.1)).Nodup:=by rw [Aes]; exact Qs nd
  refine Gy rfl (SqL.of (xs:=ys) (by rw [Bi ndb]; exact hb)) (fun i σ H'=>∃ v3 v4,σ = [some (.ref b),some (.ref d),v3,v4]/\H' = upd H d (.dK (kB (mates.take i)))) ⟨none,none,rfl,rfl⟩ (fun i σ H' _ ⟨_,_,_,e⟩=>by subst e; exact SqL.of (by rw [Bi ndb]; exact hb)) ?_ ?_
  ·rintro i x σ H' hi ⟨v3,v4,rfl,rfl⟩
   obtain ⟨m,em,p,rfl,hp⟩:=lm.get hi
   have hp':(upd H d (.dK (kB (mates.take i)))) p = some (.tup [.int m.1,.int m.2]):=by rw [Bi (Br hp hd)]; exact hp
   have hd':(upd H d (.dK (kB (mates.take i)))) d = some (.dK (kB (mates.take i))):=Bq
   have et:=Dd em
   have hlt:i < mates.length:=(List.getElem?_eq_some_iff.mp em).1
   have q1:kB mates = kB (mates.take i) ++ ((Sum.inl m.1,V.int m.2) :: (Sum.inl m.2,V.int m.1) :: kB (mates.drop (i + 1))):=by
    rw [show ((Sum.inl m.1,V.int m.2) :: (Sum.inl m.2,V.int m.1) :: kB (mates.drop (i + 1)):List (Key × V)) = kB (m :: mates.drop (i + 1)) from rfl,<- Tu]
    congr 1
    have:=List.getElem?_eq_getElem hlt
    rw [em] at this
    rw [Option.some.inj this,<- List.drop_eq_getElem_cons hlt,List.take_append_drop]
   rw [q1,List.map_append,List.map_cons,List.map_cons] at ndk
   have nd1:=(List.nodup_append.mp ndk).2.2
   have nd2:=(List.nodup_append.mp ndk).2.1
   have hlen:(kB (mates.take i)).length + 1 <= 1000:=by
    rw [Agw,List.length_take]; omega
   have n1:Cg (kB (mates.take i)) (Sum.inl m.1) = none:=Gs fun z=>nd1 _ z _ List.mem_cons_self rfl
   have n2:Cg (kB (mates.take i) ++ [(Sum.inl m.1,V.int m.2)]) (Sum.inl m.2) = none:=by
    refine Gs fun z=>?_
    rw [List.map_append,List.mem_append] at z
    rcases z with z | z
    ·exact nd1 _ z _ (List.mem_cons_of_mem _ List.mem_cons_self) rfl
    ·have e:(Sum.inl m.2:Key) = Sum.inl m.1:=List.mem_singleton.mp z
     have nd3:=(List.nodup_cons.mp nd2).1
     exact nd3 (List.mem_cons.mpr (.inl e.symm))
   walk_at "rd"
   ·rw [Gr _ n1]
    have hd2:(upd (upd H d (.dK (kB (mates.take i)))) d (.dK (kB (mates.take i) ++ [(Sum.inl m.1,.int m.2)]))) d = some (.dK (kB (mates.take i) ++ [(Sum.inl m.1,.int m.2)])):=Bq
    walk_at "rd"
    ·refine ⟨_,_,rfl,?_⟩
     rw [Ff,Ff,et,Tu,Gr _ n2]
     simp [kB]
    ·rw [List.length_append]; exact Fj hlen
   ·exact Fj (by omega)
  ·rintro σ H' ⟨v3,v4,rfl,rfl⟩
   rw [lm.1,List.take_length]
   walk_at "rd"
   exact q d hd
theorem AbX {k:Str} (h:k ∈ joinedK):inV (V.str k) [V.str "fore",V.str "back",V.str "num",V.str "blank",V.str "plain"] = true:=by
 have e:inV (V.str k) (joinedK.map V.str) = true:=by
  unfold inV
  rw [List.any_map]
  exact List.any_eq_true.mpr ⟨k,h,by show (k == k) = true; exact beq_self_eq_true k⟩
 exact e
def Aez:Sp:=fun vs H Q _=>∃ d kk w b m k,vs = [.ref d,.int w,.int b,.int m]/\H d = some (.dK kk)/\0 <= w/\0 <= b/\0 <= m/\knd kk m = .str "mark"/\k ∈ joinedK/\knd kk w = .str k/\knd kk b = .str k/\Q .non H
theorem AiC (T:Txt K mg t):Binds K t.d_ql ["kinds","whole","base","mark"] []:=T.F_ql.binds (ps:=["kinds","whole","base","mark"]) fun _ _ _ _ _ _ us hl=>match us,hl with | [_,_,_,_],_=>rfl
theorem AhY (T:Txt K mg t):FnOk P w K mg base CX0 3 t.f_ql t.d_ql ["kinds","whole","base","mark"] (Aez):=by
 refine T.F_ql.ok sc_ql (fun vs H Q E h=>?_) (fun cdv A outer s H vs Q E hr h=>?_)
 ·obtain ⟨d,kk,w,b,m,k,rfl,hd,w0,b0,m0,hm,hk,hw,hb,q⟩:=h
  rfl
 ·obtain ⟨d,kk,w,b,m,k,rfl,hd,w0,b0,m0,hm,hk,hw,hb,q⟩:=h
  have hu:=Co hr
  have hu64:=hr.units
  refine ⟨_,(Bg (Ce (Bm (Fv T) (hr.mono (by decide)) rfl T.m_qc T.F_qc.kp (Go T) .nil Bt (Ba (Ld (Bm (Sm T) (hr.mono (by decide)) rfl T.m_qbj T.F_qbj.kp (Uw T) .nil Bt (Ba (pv 1) Bb)) (Ld (Bm (Sm T) (hr.mono (by decide)) rfl T.m_qbj T.F_qbj.kp (Uw T) .nil Bt (Ba (pv 2) Bb)) (Lx (Bm (Sm T) (hr.mono (by decide)) rfl T.m_qbj T.F_qbj.kp (Uw T) .nil Bt (Ba (pv 3) Bb))))) (Ba Bv Bb))))
   (Bg (Ce (Bm (Fv T) (hr.mono (by decide)) rfl T.m_qc T.F_qc.kp (Go T) .nil Bt (Ba (Fm Ga (Bm (Vb T) (hr.mono (by decide)) rfl T.m_qn T.F_qn.kp (Za T) .nil Bt (Ba (pv 0) (Ba (pv 3) Bb))) Bv (Ci _)) (Ba Bv Bb))))
   (Bg (Bz (i:=4) sc_ql.nd rfl (Or.inl rfl) (Bm (Vb T) (hr.mono (by decide)) rfl T.m_qn T.F_qn.kp (Za T) .nil Bt (Ba (pv 0) (Ba (pv 1) Bb))))
   (Bg (Ce (Bm (Fv T) (hr.mono (by decide)) rfl T.m_qc T.F_qc.kp (Go T) .nil Bt (Ba (Fm (Tx) (pv 4) (Te (v:=.ref t.a_JOINED_KINDS) rfl T.g_JOINED_KINDS rfl) rfl) (Ba Bv Bb))))
   (Bp (Ce (Bm (Fv T) (hr.mono (by decide)) rfl T.m_qc T.F_qc.kp (Go T) .nil Bt (Ba (Fm Ga (Bm (Vb T) (hr.mono (by decide)) rfl T.m_qn T.F_qn.kp (Za T) .nil Bt (Ba (pv 0) (Ba (pv 2) Bb))) (pv 4) (Ci _)) (Ba Bv Bb))))))))),?_⟩
  try dsimp only [Cf,Bx]
  unfold knd at hm hw hb
  walk_at "rd"
  refine Afp w0 ?_
  walk_at "rd"
  refine Afp b0 ?_
  walk_at "rd"
  ·rw [hm]
   walk_at "rd"
   ·rw [hw]
    walk_at "rd"
    refine ⟨_,_,rfl,.inr (T.q_JOINED_KINDS _),rfl,rfl,?_⟩
    rw [show (if false = true then !inV (V.str k) _ else inV (V.str k) [V.str "fore",V.str "back",V.str "num",V.str "blank",V.str "plain"]) = true from AbX hk]
    walk_at "rd"
    rw [hb]
    walk_at "rd"
    ·exact q
    ·exact decide_eq_true rfl
   ·exact decide_eq_true rfl
  ·exact decide_eq_true m0
def AeY:Sp:=fun vs H Q _=>∃ d kvs J n,vs = [.ref d,.int n]/\Rd H d (.dK kvs)/\LAt KvAt H kvs J/\Q (.bl (!(Fa J (jGo J 7 n)).isSome)) H
theorem AiI (T:Txt K mg t):Binds K t.d_qe ["pairs","whole"] []:=T.F_qe.binds (ps:=["pairs","whole"]) fun _ _ _ _ _ _ us hl=>match us,hl with | [_,_],_=>rfl
theorem AhG (T:Txt K mg t):FnOk P w K mg base CX0 1 t.f_qe t.d_qe ["pairs","whole"] (AeY):=by
 refine T.F_qe.ok sc_qe (fun vs H Q E h=>?_) (fun cdv A outer s H vs Q E hr h=>?_)
 ·obtain ⟨d,kvs,J,n,rfl,hd,lj,q⟩:=h
  rfl
 ·obtain ⟨d,kvs,J,n,rfl,hd,lj,q⟩:=h
  have hu:=Co hr
  have hu64:=hr.units
  refine ⟨_,(Bg (Bz (i:=2) sc_qe.nd rfl (Or.inl rfl) (pv 1))
   (Bg (Dn PassesOwn.never rfl (Ql rfl T.z_range (Ba (Te rfl T.g_MOST_GOINGS.choose_spec.1 T.g_MOST_GOINGS.choose_spec.2) Bb)) (Cd (i:=3) sc_qe.nd rfl (Or.inl rfl))
    (Bp (Dp (Ahc (AfX hu (pv 2) (pv 0)))
    (Bp (Bz (i:=2) sc_qe.nd rfl (Or.inl rfl) (Cp (Ve) (Qy hu (pv 0) (pv 2) (fun _ _=>rfl)) Be (fun _ _=>rfl))))
    Cz)))
   (Bp (Cb (Ss (Ln hu (pv 2) (pv 0))))))),?_⟩
  try dsimp only [Cf,Bx]
  walk_at "rd"
  refine Afc (hi:=7) (n:=7) (fun R q'=>by walk_at "rd"; exact q') ⟨by decide,by decide⟩ rfl (fun i σ H'=>∃ v3,σ = [some (.ref d),some (.int n),some (.int (jGo J i n)),v3]/\H' = H) ⟨none,rfl,rfl⟩ ?_ ?_
  ·rintro i σ H' hi ⟨v3,rfl,rfl⟩
   walk_at "rd"
   refine ⟨d,_,rfl,.inl ⟨kvs,Sum.inl (jGo J i n),hd,rfl,rfl⟩,?_⟩
   walk_at "rd"
   rcases Vg lj (jGo J i n) with ⟨h1,h2⟩ | ⟨m,p,h1,h2,hp⟩
   ·rw [h2]
    refine Gz ?_
    walk_at "rd"
    exact ⟨_,by show _ = [_,_,some (V.int (Ge J (jGo J i n))),_]; unfold Ge; rw [h1],rfl⟩
   ·rw [h2]
    refine Ja ?_
    walk_at "rd"
    refine ⟨d,.ref p,rfl,.inl ⟨kvs,Sum.inl (jGo J i n),hd,rfl,h2.symm⟩,?_⟩
    walk_at "rd"
    refine Aeb hp ?_ rfl
    walk_at "rd"
    exact ⟨_,by show _ = [_,_,some (V.int (Ge J (jGo J i n))),_]; unfold Ge; rw [h1],rfl⟩
  ·rintro σ H' ⟨v3,rfl,rfl⟩
   walk_at "rd"
   refine ⟨d,_,rfl,.inl ⟨kvs,Sum.inl (jGo J 7 n),hd,rfl,rfl⟩,?_⟩
   rcases Vg lj (jGo J 7 n) with ⟨h1,h2⟩ | ⟨m,p,h1,h2,hp⟩
   ·rw [h2]; rw [h1] at q; exact q
   ·rw [h2]; rw [h1] at q; exact q
def Acd:Sp:=fun vs H Q _=>∃ d b kk xs J,vs = [.ref d,.ref b]/\H d = some (.dK kk)/\H b = some (.lst xs)/\LAt TrjAt H xs J/\Yo kk J/\∀ p kvs H',H p = none->Same H H'->H' p = some (.dK kvs)->LAt KvAt H' kvs J->Q (.ref p) H'
theorem Aiq (T:Txt K mg t):Binds K t.d_qq ["kinds","joins"] []:=T.F_qq.binds (ps:=["kinds","joins"]) fun _ _ _ _ _ _ us hl=>match us,hl with | [_,_],_=>rfl
theorem Ahi (T:Txt K mg t):FnOk P w K mg base CX0 4 t.f_qq t.d_qq ["kinds","joins"] (Acd):=by
 refine T.F_qq.ok sc_qq (fun vs H Q E h=>?_) (fun cdv A outer s H vs Q E hr h=>?_)
 ·obtain ⟨d,b,kk,xs,J,rfl,hd,hb,lj,jo,q⟩:=h
  rfl
 ·obtain ⟨d,b,kk,xs,J,rfl,hd,hb,lj,jo,q⟩:=h
  have hu:=Co hr
  have hu64:=hr.units
  refine ⟨_,(Bg (Bz (i:=2) sc_qq.nd rfl (Or.inl rfl) Jw)
   (Bg (Dn PassesOwn.never rfl (Dr (pv 1)) (Lg rfl (Ct (Cd (i:=3) sc_qq.nd rfl (Or.inl rfl)) (Ct (Cd (i:=4) sc_qq.nd rfl (Or.inl rfl)) (Ct (Cd (i:=5) sc_qq.nd rfl (Or.inl rfl)) Gj))))
    (Bg (Ce (Bm (AhY T) (hr.mono (by decide)) rfl T.m_ql T.F_ql.kp (AiC T) .nil Bt (Ba (pv 0) (Ba (pv 3) (Ba (pv 4) (Ba (pv 5) Bb))))))
   (Bg (Ce (Bm (Fv T) (hr.mono (by decide)) rfl T.m_qc T.F_qc.kp (Go T) .nil Bt (Ba (Ss (Ln hu (pv 3) (pv 2))) (Ba Bv Bb))))
   (Bp (Gp hu (pv 2) (pv 3) (Ahf (Ba (pv 4) (Ba (pv 5) Bb))) rfl)))))
   (Bg (Vm (Dn PassesOwn.never rfl (Vp (pv 2)) (Cd (i:=3) sc_qq.nd rfl (Or.inl rfl))
    (Bp (Ce (Bm (Fv T) (hr.mono (by decide)) rfl T.m_qc T.F_qc.kp (Go T) .nil Bt (Ba (Bm (AhG T) (hr.mono (by decide)) rfl T.m_qe T.F_qe.kp (AiI T) .nil Bt (Ba (pv 2) (Ba (pv 3) Bb))) (Ba Bv Bb)))))))
   (Bp (Cb (pv 2)))))),?_⟩
  try dsimp only [Cf,Bx]
  walk_at "rd"
  intro p hp
  have s0:Same H (upd H p (.dK [])):=Same.new hp
  have e0:(upd H p (.dK [])) p = some (.dK []):=Bq
  generalize upd H p (.dK []) = H0 at s0 e0
  walk_at "rd"
  refine Gy (i:=1) rfl (SqL.of (s0 _ _ hb)) (fun i σ H'=>∃ v3 v4 v5 kvs,σ = [some (.ref d),some (.ref b),some (.ref p),v3,v4,v5]/\Same H H'/\H' p = some (.dK kvs)/\LAt KvAt H' kvs (J.take i)) ⟨none,none,none,[],rfl,s0,e0,LAt.nil⟩ (fun i σ H' _ ⟨_,_,_,_,_,s,_⟩=>SqL.of (s _ _ hb)) ?_ ?_
  ·rintro i x σ H' hi ⟨v3,v4,v5,kvs,rfl,s,e,lk⟩
   obtain ⟨j,ej,a,rfl,ha⟩:=lj.get hi
   have hj:=List.mem_of_getElem? ej
   have ha':=s _ _ ha
   obtain ⟨k,hk,hw,hb'⟩:=jo.kd j hj
   obtain ⟨n1,n2,n3⟩:=jo.nn j hj
   have hlen:kvs.length <= 400:=by
    rw [lk.1,List.length_take]
    have:=jo.ln
    omega
   have hno:Cg kvs (Sum.inl j.1) = none:=by
    rcases Vg lk j.1 with ⟨_,h2⟩ | ⟨m,_,h1,_,_⟩
    ·exact h2
    ·exact absurd (show j.1 ∈ (J.take i).map (·.1) from List.mem_map.mpr ⟨_,Zd h1,rfl⟩) (Qi (f:=(·.1)) jo.nw ej)
   walk_at "rd"
   refine ⟨d,kk,j.1,j.2.1,j.2.2,k,rfl,s _ _ hd,n1,n2,n3,jo.mr j hj,hk,hw,hb',?_⟩
   walk_at "rd"
   ·refine ⟨by show 2 <= sizeLine; decide,fun t ht=>?_⟩
    walk_at "rd"
    refine AbK (Same.new ht _ _ e) ?_ (Fj (by omega))
    rw [Gr _ hno]
    have ntp:t ≠ p:=(Br e ht).symm
    have kt:∀ q' zs,H' q' = some (.tup zs)->(upd (upd H' t (.tup [.int j.2.1,.int j.2.2])) p (.dK (kvs ++ [(Sum.inl j.1,V.ref t)]))) q' = some (.tup zs):=fun q' zs z=>by
     rw [Bi (Dc z e (by intro w; cases w)),Bi (Br z ht)]; exact z
    refine ⟨_,_,_,_,rfl,fun q' o z=>?_,Bq,?_⟩
    ·rw [Bi (Br z hp),Bi (Br (s _ _ z) ht)]; exact s _ _ z
    ·rw [Dd ej]
     exact LAt.snoc (lk.mono fun x y h=>h.mono kt) ⟨rfl,t,rfl,by rw [Bi ntp,Bq]⟩
   ·rw [hno]; rfl
  ·rintro σ H' ⟨v3,v4,v5,kvs,rfl,s,e,lk⟩
   rw [lj.1,List.take_length] at lk
   dsimp only
   with_reducible refine Zu ?_
   refine AgZ (i:=2) (a:=p) (kvs:=kvs) rfl e (fun i σ H''=>∃ v3 v4 v5,σ = [some (.ref d),some (.ref b),some (.ref p),v3,v4,v5]/\H'' = H') ⟨_,_,_,rfl,rfl⟩ (fun i σ H' _ ⟨_,_,_,_,z⟩=>by subst z; exact e) ?_ ?_
   ·rintro o i kv σ H'' hi ⟨v3,v4,v5,rfl,rfl⟩
    obtain ⟨j,ej,e1,_⟩:=lk.get hi
    have hj:=List.mem_of_getElem? ej
    obtain ⟨key,val⟩:=kv
    dsimp only at e1
    subst e1
    show Jd _ (.int j.1) _ _ _
    walk_at "rd"
    refine ⟨p,kvs,J,j.1,rfl,AfT,lk.mono fun x y h=>h.mono fun q' zs z=>?_,?_⟩
    ·rw [Bi (Dc z e (by intro w; cases w))]; exact z
    ·walk_at "rd"
     ·exact ⟨Bq,_,_,_,rfl,AcC e⟩
     ·rw [jo.en j hj]; rfl
   ·rintro σ H'' ⟨v3,v4,v5,rfl,rfl⟩
    walk_at "rd"
    exact q p kvs _ hp s e lk
def AbO:Sp:=fun vs H Q _=>∃ d kvs J,vs = [.ref d]/\H d = some (.dK kvs)/\LAt KvAt H kvs J/\(J.map (·.2)).Nodup/\J.length <= 400/\∀ p H',H p = none->Same H H'->H' p = some (.dT (kW J))->Q (.ref p) H'
theorem AiU (T:Txt K mg t):Binds K t.d_qj ["pairs"] []:=T.F_qj.binds (ps:=["pairs"]) fun _ _ _ _ _ _ us hl=>match us,hl with | [_],_=>rfl
theorem Ahj (T:Txt K mg t):FnOk P w K mg base CX0 2 t.f_qj t.d_qj ["pairs"] (AbO):=by
 refine T.F_qj.ok sc_qj (fun vs H Q E h=>?_) (fun cdv A outer s H vs Q E hr h=>?_)
 ·obtain ⟨d,kvs,J,rfl,hd,lk,np,ln,q⟩:=h
  rfl
 ·obtain ⟨d,kvs,J,rfl,hd,lk,np,ln,q⟩:=h
  have hu:=Co hr
  have hu64:=hr.units
  refine ⟨_,(Bg (Bz (i:=1) sc_qj.nd rfl (Or.inl rfl) AcJ)
   (Bg (Vm (Dn PassesOwn.never rfl (Aav (pv 0)) (Lg rfl (Ct (Cd (i:=2) sc_qj.nd rfl (Or.inl rfl)) (Ct (Cd (i:=3) sc_qj.nd rfl (Or.inl rfl)) Gj)))
    (Bg (Ce (Bm (Fv T) (hr.mono (by decide)) rfl T.m_qc T.F_qc.kp (Go T) .nil Bt (Ba (Ss (Ln hu (pv 3) (pv 1))) (Ba Bv Bb))))
   (Bp (Gp hu (pv 1) (pv 3) (pv 2) rfl)))))
   (Bp (Cb (pv 1))))),?_⟩
  try dsimp only [Cf,Bx]
  walk_at "rd"
  intro p hp
  have s0:Same H (upd H p (.dT [])):=Same.new hp
  have e0:(upd H p (.dT [])) p = some (.dT []):=Bq
  generalize upd H p (.dT []) = H0 at s0 e0
  have ndp:d ≠ p:=Br hd hp
  walk_at "rd"
  refine AgQ (i:=0) (a:=d) (kvs:=kvs) rfl (s0 _ _ hd) (fun i σ H'=>∃ v2 v3,σ = [some (.ref d),some (.ref p),v2,v3]/\Same H H'/\H' p = some (.dT (kW (J.take i)))) ⟨none,none,rfl,s0,e0⟩ ?_ ?_
  ·rintro o i kv t σ H' hi ht ntd ⟨v2,v3,rfl,s,e⟩
   obtain ⟨j,ej,e1,a,e2,ha⟩:=lk.get hi
   obtain ⟨key,val⟩:=kv
   dsimp only at e1 e2
   subst e1 e2
   have ntp:p ≠ t:=Br e ht
   have had:a ≠ d:=Dc ha hd (by intro w; cases w)
   have hat:a ≠ t:=Br (s _ _ ha) ht
   have hap:a ≠ p:=Br ha hp
   have ep:(upd (upd H' d (.frz o (.dK kvs))) t (.tup [.int j.1,.ref a])) p = some (.dT (kW (J.take i))):=by rw [Bi ntp,Bi ndp.symm]; exact e
   have ea:(upd (upd H' d (.frz o (.dK kvs))) t (.tup [.int j.1,.ref a])) a = some (.tup ([Sum.inl j.2.1,Sum.inl j.2.2].map kV)):=by rw [Bi hat,Bi had]; exact s _ _ ha
   have et:(upd (upd H' d (.frz o (.dK kvs))) t (.tup [.int j.1,.ref a])) t = some (.tup [.int j.1,.ref a]):=Bq
   have ed:(upd (upd H' d (.frz o (.dK kvs))) t (.tup [.int j.1,.ref a])) d = some (.frz o (.dK kvs)):=by rw [Bi ntd.symm,Bq]
   have back:∀ q' u,H q' = some u->q' ≠ d->(upd (upd H' d (.frz o (.dK kvs))) t (.tup [.int j.1,.ref a])) q' = some u:=fun q' u z nz=>by
    rw [Bi (Br (s _ _ z) ht),Bi nz]; exact s _ _ z
   show Wm _ _ _ _ _ (upd (upd H' d (.frz o (.dK kvs))) t (.tup [.int j.1,.ref a])) _
   generalize upd (upd H' d (.frz o (.dK kvs))) t (.tup [.int j.1,.ref a]) = H2 at ep ea et ed back
   have hno:Cg (kW (J.take i)) [Sum.inl j.2.1,Sum.inl j.2.2] = none:=Aik (Qi (f:=(·.2)) np ej)
   have hlen:(kW (J.take i)).length <= 400:=by unfold kW; rw [List.length_map,List.length_take]; omega
   walk_at "rd"
   refine ⟨p,_,rfl,DGet.t ep ea,?_⟩
   rw [hno]
   walk_at "rd"
   rotate_left
   ·rfl
   refine ⟨p,_,rfl,DPut.t ep ea (Fj (by omega)),?_⟩
   rw [Gr _ hno]
   refine ⟨by rw [Bi ndp]; exact ed,_,_,rfl,fun q' u z=>?_,?_⟩
   ·by_cases hq:q' = d
    ·subst hq
     rw [Bq]
     rw [hd] at z; exact z
    ·rw [Bi hq,Bi (Br z hp)]; exact back _ _ z hq
   ·rw [Bi ndp.symm,Bq,Dd ej]
    simp [kW]
  ·rintro σ H' ⟨v2,v3,rfl,s,e⟩
   rw [lk.1,List.take_length] at e
   walk_at "rd"
   exact q p _ hp s e
theorem Aix (T:Txt K mg t):Binds K t.d_qs ["self","signs","mates","joins"] []:=T.F_qs.binds (ps:=["self","signs","mates","joins"]) fun _ _ _ _ _ _ us hl=>match us,hl with | [_,_,_,_],_=>rfl
theorem Ahp (T:Txt K mg t):FnOk P w K mg base CX0 5 t.f_qs t.d_qs ["self","signs","mates","joins"] (Xd t.C_Book):=by
 refine T.F_qs.ok Ahr (fun vs H Q E h=>?_) (fun cdv A outer s H vs Q E hr h=>?_)
 ·obtain ⟨p,dx,a,b,cc,xs,ys,zs,signs,mates,J,rfl,hp,ha,hb,hc,ls,lm,lj,so,mo,nd,jo,hl,q⟩:=h
  rfl
 ·obtain ⟨p,dx,a,b,cc,xs,ys,zs,signs,mates,J,rfl,hp,ha,hb,hc,ls,lm,lj,so,mo,nd,jo,hl,q⟩:=h
  have hu:=Co hr
  have hu64:=hr.units
  refine ⟨_,(Bg (Ce (Bm (Zh T) (hr.mono (by decide)) rfl T.m_qd T.F_qd.kp (AcV T) .nil Bt (Ba (pv 1) (Ba Be Bb))))
   (Bg (Ce (Bm (Zh T) (hr.mono (by decide)) rfl T.m_qd T.F_qd.kp (AcV T) .nil Bt (Ba (pv 2) (Ba Be Bb))))
   (Bg (Ce (Bm (Zh T) (hr.mono (by decide)) rfl T.m_qd T.F_qd.kp (AcV T) .nil Bt (Ba (pv 3) (Ba Be Bb))))
   (Bg (Qv (pv 0) (Bm (AhN T) (hr.mono (by decide)) rfl T.m_qo T.F_qo.kp (AiS T) .nil Bt (Ba (pv 1) (Ba (pv 2) Bb))) rfl)
   (Bg (Qv (pv 0) (Bm (Ahm T) (hr.mono (by decide)) rfl T.m_qr T.F_qr.kp (Aip T) .nil Bt (Ba (pv 1) Bb)) rfl)
   (Bg (Qv (pv 0) (Bm (Aia T) (hr.mono (by decide)) rfl T.m_qw T.F_qw.kp (AiJ T) .nil Bt (Ba (pv 2) Bb)) rfl)
   (Bg (Qv (pv 0) (Bm (Ahi T) (hr.mono (by decide)) rfl T.m_qq T.F_qq.kp (Aiq T) .nil Bt (Ba (Wg (pv 0) rfl) (Ba (pv 3) Bb))) rfl)
   (Bp (Qv (pv 0) (Bm (Ahj T) (hr.mono (by decide)) rfl T.m_qj T.F_qj.kp (AiU T) .nil Bt (Ba (Wg (pv 0) rfl) Bb)) rfl))))))))),?_⟩
  try dsimp only [Cf,Bx]
  have nt:∀ q' zs,H q' = some (.tup zs)->q' ≠ p:=fun q' zs h=>Dc h hp (by intro z; cases z)
  have nap:a ≠ p:=Dc ha hp (by intro z; cases z)
  have nbp:b ≠ p:=Dc hb hp (by intro z; cases z)
  have ncp:cc ≠ p:=Dc hc hp (by intro z; cases z)
  have c3:∀ x ∈ xs,∃ b ys,x = V.ref b/\H b = some (.tup ys)/\((ys.length:Nat):Int) = 3:=fun x hx=>by
   obtain ⟨i,hi⟩:=List.getElem?_of_mem hx
   obtain ⟨s,_,q',e,h⟩:=ls.get hi
   exact ⟨q',_,e,h,rfl⟩
  have c2:∀ x ∈ ys,∃ b ys,x = V.ref b/\H b = some (.tup ys)/\((ys.length:Nat):Int) = 2:=fun x hx=>by
   obtain ⟨i,hi⟩:=List.getElem?_of_mem hx
   obtain ⟨s,_,q',e,h⟩:=lm.get hi
   exact ⟨q',_,e,h,rfl⟩
  have c3j:∀ x ∈ zs,∃ b ys,x = V.ref b/\H b = some (.tup ys)/\((ys.length:Nat):Int) = 3:=fun x hx=>by
   obtain ⟨i,hi⟩:=List.getElem?_of_mem hx
   obtain ⟨s,_,q',e,h⟩:=lj.get hi
   exact ⟨q',_,e,h,rfl⟩
  have mJ:∀ {H'},Keep p H H'->LAt TrjAt H' zs J:=fun k=>lj.mono fun x y h=>h.mono fun q' zs e=>k q' _ e (nt q' zs e)
  have mT:∀ {H'},Keep p H H'->LAt TripAt H' xs signs:=fun k=>ls.mono fun x y h=>h.mono fun q' zs e=>k q' _ e (nt q' zs e)
  have mP:∀ {H'},Keep p H H'->LAt PairAt H' ys mates:=fun k=>lm.mono fun x y h=>h.mono fun q' zs e=>k q' _ e (nt q' zs e)
  have nd1:=(List.nodup_append.mp nd).1
  have nd2:=(List.nodup_append.mp nd).2.1
  walk_at "rd"
  refine ⟨a,xs,_,rfl,ha,c3,?_⟩
  walk_at "rd"
  refine ⟨b,ys,_,rfl,hb,c2,?_⟩
  walk_at "rd"
  refine ⟨cc,zs,_,rfl,hc,c3j,?_⟩
  walk_at "rd"
  refine ⟨a,b,xs,ys,signs,mates,rfl,ha,hb,ls,lm,so,mo,nd,by omega,fun dk hk=>?_⟩
  have fk:H dk = none:=hk
  walk_at "rd"
  have k1:Keep p H (upd H dk (.dK (kK signs ++ kM mates))):=Keep.new hk
  have p1:(upd H dk (.dK (kK signs ++ kM mates))) p = some (.ins t.C_Book dx []):=by rw [Bi (Br hp hk)]; exact hp
  have e1:(upd H dk (.dK (kK signs ++ kM mates))) dk = some (.dK (kK signs ++ kM mates)):=Bq
  generalize upd H dk (.dK (kK signs ++ kM mates)) = H1 at k1 p1 e1
  refine ⟨p,_,_,_,rfl,p1,T.cl_Book,T.n_Book_kinds,by show 0 < 1000; decide,?_⟩
  have k2:Keep p H (upd H1 p (.ins t.C_Book dx (Bs "kinds" (.ref dk) []))):=k1.trans Keep.put
  have p2:(upd H1 p (.ins t.C_Book dx (Bs "kinds" (.ref dk) []))) p = some (.ins t.C_Book dx (Bs "kinds" (.ref dk) [])):=Bq
  have e2:(upd H1 p (.ins t.C_Book dx (Bs "kinds" (.ref dk) []))) dk = some (.dK (kK signs ++ kM mates)):=by rw [Bi (Dc e1 p1 (by intro z; cases z))]; exact e1
  generalize upd H1 p (.ins t.C_Book dx (Bs "kinds" (.ref dk) [])) = H2 at k2 p2 e2
  walk_at "rd"
  refine ⟨a,xs,signs,rfl,k2 _ _ ha nap,mT k2,nd1,by omega,fun dr hk=>?_⟩
  have fr':H dr = none:=k2.free p2 hk
  walk_at "rd"
  have k3:Keep p H (upd H2 dr (.dK (kR signs))):=k2.trans (Keep.new hk)
  have p3:(upd H2 dr (.dK (kR signs))) p = some (.ins t.C_Book dx (Bs "kinds" (.ref dk) [])):=by rw [Bi (Br p2 hk)]; exact p2
  have e3:(upd H2 dr (.dK (kR signs))) dk = some (.dK (kK signs ++ kM mates)):=by rw [Bi (Br e2 hk)]; exact e2
  have r3:(upd H2 dr (.dK (kR signs))) dr = some (.dK (kR signs)):=Bq
  generalize upd H2 dr (.dK (kR signs)) = H3 at k3 p3 e3 r3
  refine ⟨p,_,_,_,rfl,p3,T.cl_Book,T.n_Book_ranks,Nat.lt_of_le_of_lt (Cu _ _ _) (by show 0 + 1 < 1000; decide),?_⟩
  have k4:Keep p H (upd H3 p (.ins t.C_Book dx (Bs "ranks" (.ref dr) (Bs "kinds" (.ref dk) [])))):=k3.trans Keep.put
  have p4:(upd H3 p (.ins t.C_Book dx (Bs "ranks" (.ref dr) (Bs "kinds" (.ref dk) [])))) p = some (.ins t.C_Book dx (Bs "ranks" (.ref dr) (Bs "kinds" (.ref dk) []))):=Bq
  have e4:(upd H3 p (.ins t.C_Book dx (Bs "ranks" (.ref dr) (Bs "kinds" (.ref dk) [])))) dk = some (.dK (kK signs ++ kM mates)):=by rw [Bi (Dc e3 p3 (by intro z; cases z))]; exact e3
  have r4:(upd H3 p (.ins t.C_Book dx (Bs "ranks" (.ref dr) (Bs "kinds" (.ref dk) [])))) dr = some (.dK (kR signs)):=by rw [Bi (Dc r3 p3 (by intro z; cases z))]; exact r3
  generalize upd H3 p (.ins t.C_Book dx (Bs "ranks" (.ref dr) (Bs "kinds" (.ref dk) []))) = H4 at k4 p4 e4 r4
  walk_at "rd"
  refine ⟨b,ys,mates,rfl,k4 _ _ hb nbp,mP k4,nd2,by omega,fun dm hk=>?_⟩
  have fm:H dm = none:=k4.free p4 hk
  walk_at "rd"
  have k5:Keep p H (upd H4 dm (.dK (kB mates))):=k4.trans (Keep.new hk)
  have p5:(upd H4 dm (.dK (kB mates))) p = some (.ins t.C_Book dx (Bs "ranks" (.ref dr) (Bs "kinds" (.ref dk) []))):=by rw [Bi (Br p4 hk)]; exact p4
  have e5:(upd H4 dm (.dK (kB mates))) dk = some (.dK (kK signs ++ kM mates)):=by rw [Bi (Br e4 hk)]; exact e4
  have r5:(upd H4 dm (.dK (kB mates))) dr = some (.dK (kR signs)):=by rw [Bi (Br r4 hk)]; exact r4
  have m5:(upd H4 dm (.dK (kB mates))) dm = some (.dK (kB mates)):=Bq
  generalize upd H4 dm (.dK (kB mates)) = H5 at k5 p5 e5 r5 m5
  refine ⟨p,_,_,_,rfl,p5,T.cl_Book,T.n_Book_mates,Nat.lt_of_le_of_lt (Cu _ _ _) (Nat.lt_of_le_of_lt (Nat.succ_le_succ (Cu _ _ _)) (by show 0 + 1 + 1 < 1000; decide)),?_⟩
  have k6:Keep p H (upd H5 p (.ins t.C_Book dx (Bs "mates" (.ref dm) (Bs "ranks" (.ref dr) (Bs "kinds" (.ref dk) []))))):=k5.trans Keep.put
  have p6:(upd H5 p (.ins t.C_Book dx (Bs "mates" (.ref dm) (Bs "ranks" (.ref dr) (Bs "kinds" (.ref dk) []))))) p = some (.ins t.C_Book dx (Bs "mates" (.ref dm) (Bs "ranks" (.ref dr) (Bs "kinds" (.ref dk) [])))):=Bq
  have e6:(upd H5 p (.ins t.C_Book dx (Bs "mates" (.ref dm) (Bs "ranks" (.ref dr) (Bs "kinds" (.ref dk) []))))) dk = some (.dK (kK signs ++ kM mates)):=by rw [Bi (Dc e5 p5 (by intro z; cases z))]; exact e5
  have r6:(upd H5 p (.ins t.C_Book dx (Bs "mates" (.ref dm) (Bs "ranks" (.ref dr) (Bs "kinds" (.ref dk) []))))) dr = some (.dK (kR signs)):=by rw [Bi (Dc r5 p5 (by intro z; cases z))]; exact r5
  have m6:(upd H5 p (.ins t.C_Book dx (Bs "mates" (.ref dm) (Bs "ranks" (.ref dr) (Bs "kinds" (.ref dk) []))))) dm = some (.dK (kB mates)):=by rw [Bi (Dc m5 p5 (by intro z; cases z))]; exact m5
  generalize upd H5 p (.ins t.C_Book dx (Bs "mates" (.ref dm) (Bs "ranks" (.ref dr) (Bs "kinds" (.ref dk) [])))) = H6 at k6 p6 e6 r6 m6
  walk_at "rd"
  refine ⟨p,_,_,_,_,rfl,p6,T.cl_Book,T.n_Book_kinds,by rw [Cm,if_neg (by decide +kernel),Cm,if_neg (by decide +kernel),Cm,if_pos rfl],?_⟩
  walk_at "rd"
  refine ⟨dk,cc,_,zs,J,rfl,e6,k6 _ _ hc ncp,mJ k6,jo,fun dp kvs H7 hk s7 q7 lk7=>?_⟩
  have fp:H dp = none:=k6.free p6 hk
  walk_at "rd"
  have k7:Keep p H H7:=fun q' o e n=>s7 _ _ (k6 _ _ e n)
  have p7:=s7 _ _ p6
  have e7:=s7 _ _ e6
  have r7:=s7 _ _ r6
  have m7:=s7 _ _ m6
  clear k6 p6 e6 r6 m6 s7
  refine ⟨p,_,_,_,rfl,p7,T.cl_Book,T.n_Book_pairs,Nat.lt_of_le_of_lt (Cu _ _ _) (Nat.lt_of_le_of_lt (Nat.succ_le_succ (Nat.le_trans (Cu _ _ _) (Nat.succ_le_succ (Cu _ _ _)))) (by show 0 + 1 + 1 + 1 < 1000; decide)),?_⟩
  have k8:Keep p H (upd H7 p (.ins t.C_Book dx (Bs "pairs" (.ref dp) (Bs "mates" (.ref dm) (Bs "ranks" (.ref dr) (Bs "kinds" (.ref dk) [])))))):=k7.trans Keep.put
  have p8:(upd H7 p (.ins t.C_Book dx (Bs "pairs" (.ref dp) (Bs "mates" (.ref dm) (Bs "ranks" (.ref dr) (Bs "kinds" (.ref dk) [])))))) p = some (.ins t.C_Book dx (Bs "pairs" (.ref dp) (Bs "mates" (.ref dm) (Bs "ranks" (.ref dr) (Bs "kinds" (.ref dk) []))))):=Bq
  have e8:(upd H7 p (.ins t.C_Book dx (Bs "pairs" (.ref dp) (Bs "mates" (.ref dm) (Bs "ranks" (.ref dr) (Bs "kinds" (.ref dk) [])))))) dk = some (.dK (kK signs ++ kM mates)):=by rw [Bi (Dc e7 p7 (by intro z; cases z))]; exact e7
  have r8:(upd H7 p (.ins t.C_Book dx (Bs "pairs" (.ref dp) (Bs "mates" (.ref dm) (Bs "ranks" (.ref dr) (Bs "kinds" (.ref dk) [])))))) dr = some (.dK (kR signs)):=by rw [Bi (Dc r7 p7 (by intro z; cases z))]; exact r7
  have m8:(upd H7 p (.ins t.C_Book dx (Bs "pairs" (.ref dp) (Bs "mates" (.ref dm) (Bs "ranks" (.ref dr) (Bs "kinds" (.ref dk) [])))))) dm = some (.dK (kB mates)):=by rw [Bi (Dc m7 p7 (by intro z; cases z))]; exact m7
  have q8:(upd H7 p (.ins t.C_Book dx (Bs "pairs" (.ref dp) (Bs "mates" (.ref dm) (Bs "ranks" (.ref dr) (Bs "kinds" (.ref dk) [])))))) dp = some (.dK kvs):=by rw [Bi (Dc q7 p7 (by intro z; cases z))]; exact q7
  have lk8:LAt KvAt (upd H7 p (.ins t.C_Book dx (Bs "pairs" (.ref dp) (Bs "mates" (.ref dm) (Bs "ranks" (.ref dr) (Bs "kinds" (.ref dk) [])))))) kvs J:=lk7.mono fun x y h=>h.mono fun q' zs z=>by rw [Bi (Dc z p7 (by intro z; cases z))]; exact z
  generalize upd H7 p (.ins t.C_Book dx (Bs "pairs" (.ref dp) (Bs "mates" (.ref dm) (Bs "ranks" (.ref dr) (Bs "kinds" (.ref dk) []))))) = H8 at k8 p8 e8 r8 m8 q8 lk8
  clear k7 p7 e7 r7 m7 q7 lk7
  walk_at "rd"
  refine ⟨p,_,_,_,_,rfl,p8,T.cl_Book,T.n_Book_pairs,by rw [Cm,if_pos rfl],?_⟩
  walk_at "rd"
  refine ⟨dp,kvs,J,rfl,q8,lk8,jo.np,jo.ln,fun dw H9 hk s9 w9=>?_⟩
  have fw:H dw = none:=k8.free p8 hk
  walk_at "rd"
  have p9:=s9 _ _ p8
  refine ⟨p,_,_,_,rfl,p9,T.cl_Book,T.n_Book_wholes,Nat.lt_of_le_of_lt (Cu _ _ _) (Nat.lt_of_le_of_lt (Nat.succ_le_succ (Nat.le_trans (Cu _ _ _) (Nat.succ_le_succ (Nat.le_trans (Cu _ _ _) (Nat.succ_le_succ (Cu _ _ _)))))) (by show 0 + 1 + 1 + 1 + 1 < 1000; decide)),?_⟩
  refine q _ kvs dx dk dr dm dp dw (fun q' o e n=>by rw [Bi n]; exact s9 _ _ (k8 _ _ e n)) fk fr' fm fp fw Bq ?_ ?_ ?_ ?_ ?_ ?_
  ·rw [Bi (Dc e8 p8 (by intro z; cases z))]; exact s9 _ _ e8
  ·rw [Bi (Dc r8 p8 (by intro z; cases z))]; exact s9 _ _ r8
  ·rw [Bi (Dc m8 p8 (by intro z; cases z))]; exact s9 _ _ m8
  ·rw [Bi (Dc q8 p8 (by intro z; cases z))]; exact s9 _ _ q8
  ·rw [Bi (Dc w9 p9 (by intro z; cases z))]; exact w9
  ·exact lk8.mono fun x y h=>h.mono fun q' zs z=>by rw [Bi (Dc z p8 (by intro z; cases z))]; exact s9 _ _ z
local macro_rules | `(tactic| walk_at "u")=>`(tactic| with_reducible refine AaJ (by assumption) ?_)
local macro_rules | `(tactic| walk_at "u")=>`(tactic| with_reducible refine AbG (by assumption) Wi ?_)
theorem AgR (T:Txt K mg t):Binds K t.d_qt ["self","sign"] []:=T.F_qt.binds (ps:=["self","sign"]) fun _ _ _ _ _ _ us hl=>match us,hl with | [_,_],_=>rfl
theorem AdZ (T:Txt K mg t):FnOk P w K mg base CX0 2 t.f_qt t.d_qt ["self","sign"] (Tj t.C_Book):=by
 refine T.F_qt.ok Ah4 (fun vs H Q E h=>?_) (fun cdv A outer s H vs Q E hr h=>?_)
 ·obtain ⟨b,n,k,r,m,p,w,rfl,⟨dx,dk,dr,dm,dp,dw,h1,h2,h3,h4,h5,h6⟩,q⟩:=h
  rfl
 ·obtain ⟨b,n,k,r,m,p,w,rfl,⟨dx,dk,dr,dm,dp,dw,h1,h2,h3,h4,h5,h6⟩,q⟩:=h
  have hu:=Co hr
  have hu64:=hr.units
  refine ⟨_,(Bp (Cb (Bm (Vb T) (hr.mono (by decide)) rfl T.m_qn T.F_qn.kp (Za T) .nil Bt (Ba (Wg (pv 0) rfl) (Ba (pv 1) Bb))))),?_⟩
  try dsimp only [Cf,Bx]
  walk_at "rd"
  refine ⟨b,_,_,_,_,rfl,h1,T.cl_Book,T.n_Book_kinds,Aba,?_⟩
  walk_at "rd"
  exact q
def Abw (K:PySem.W.Frag) (C:Addr):Sp:=fun vs H Q _=>∃ b l U M r m p w ts,vs = [.ref b,.ref l]/\BookAt C H b (kK U ++ kM M) r m p w/\SqL K H l (List.map V.int ts)/\ts.length <= 300 /\
 ∀ (wl:Addr) (xs:List V) (H':Hp),H wl = none->Same H H'->(∀ x ∈ xs,∃ p,x = V.ref p/\H p = none)->LLat H' wl xs (grp (Dg U M) ts)->Q (.ref wl) H'
-- EU_WOF
def Aeg:PSp:=fun ps P=>∃ U M J ts,ps = [.bk U M J,.lst (List.map .int ts)]/\ts.length <= 300/\P (.lst (List.map (fun g=>PV.lst (List.map .int g)) (grp (Dg U M) ts)))
theorem AgC {C:Addr} {ω:Om} {E:XK} {m n:Bool} {t:TA} {u:UA} (ha:AU K C ω [m,n] t u):EU K C ω (Nq (Abw K C) [] E t) (Rh Aeg u) :=
 fun B G0 H0 own G σ H ρ P Q S hu k=>ha B G0 H0 own G σ H ρ _ _ S hu fun vs ps G1 H1 w1 ok ⟨U,M,J,ts,e,hl,h⟩=>by
  obtain ⟨v,w,p,q,rfl,e2,r1,r2⟩:=Sr ok
  rw [e] at e2; cases e2
  obtain ⟨b,kvs,rfl,bk,_⟩:=r1.bk
  obtain ⟨a,xs,rfl,ea,l⟩:=r2.lst w1.i
  rw [Qt l] at ea
  refine ⟨b,a,U,M,_,_,_,_,ts,rfl,bk.mono fun _ _ e _=>w1.i _ _ e,SqL.of ea,hl,fun wl xs H2 hwl s2 fx ll=>?_⟩
  refine k _ _ _ H2 (w1.trans (Of w1.i s2)) (Rep.ofL (Dk hwl ll.li) ⟨by rw [ll.at'.1,List.length_map],fun i x y hx hy=>?_⟩) h
  rw [List.getElem?_map] at hy
  obtain ⟨g,hg,rfl⟩:=Option.map_eq_some_iff.mp hy
  obtain ⟨p,e1,hp⟩:=ll.at'.2 i x g hx hg
  obtain ⟨p',e2,hn⟩:=fx x (List.mem_of_getElem? hx)
  subst e1
  cases e2
  exact Rep.ofL (Dk hn hp) (Fp g)
theorem Aic (T:Txt K mg t):Binds K t.d_qbb ["book","text"] []:=T.F_qbb.binds (ps:=["book","text"]) fun _ _ _ _ _ _ us hl=>match us,hl with | [_,_],_=>rfl
theorem AgH (T:Txt K mg t):FnOk P w K mg base CX0 3 t.f_qbb t.d_qbb ["book","text"] (Abw K t.C_Book):=by
 refine T.F_qbb.ok sc_qbb (fun vs H Q E h=>?_) (fun cdv A outer s H vs Q E hr h=>?_)
 ·obtain ⟨b,l,U,M,r,m,pp,w,ts,rfl,hB,hT,hl,q⟩:=h
  rfl
 ·obtain ⟨b,l,U,M,r,m,pp,w,ts,rfl,hB,hT,hl,q⟩:=h
  have hu:=Co hr
  have hu64:=hr.units
  refine ⟨_,(Bg (Bz (i:=2) sc_qbb.nd rfl (Or.inl rfl) (Cj Bb))
   (Bg (Dn PassesOwn.never rfl (Dr (pv 1)) (Cd (i:=3) sc_qbb.nd rfl (Or.inl rfl))
    (Bg (Dp (PW.pt (Gc (Ck Ga (Cq (Jy) rfl T.z_len PySem.boot_len (Ba (pv 2) Bb)) Be (Ci _)) (Lb (Ck Rk (Xm (pv 0) T.cl_Book T.M_qt (AdZ T) (hr.mono (by decide)) (AgR T) .nil Bt (Ba (pv 3) Bb)) Bv (Ci _)))))
    (Bp (Ce (Jc PySem.F.plainAttrs_list PySem.F.slot_list_append PySem.F.type_list_append Dq (pv 2) (Ba (Cj Bb) Bb))))
    Cz)
   (Bp (Ce (Jc PySem.F.plainAttrs_list PySem.F.slot_list_append PySem.F.type_list_append Dq (Cp (Sz) (pv 2) (Sj Qq Be) (fun _ _=>rfl)) (Ba (pv 3) Bb))))))
   (Bp (Cb (pv 2))))),?_⟩
  try dsimp only [Cf,Bx]
  walk_at "rd"
  refine ⟨by decide,fun wl H0 hwl s0 e0=>?_⟩
  walk_at "rd"
  refine Gy (i:=1) rfl (s0.seq hT) (fun i σ H'=>∃ v3 xs,σ = [some (.ref b),some (.ref l),some (.ref wl),v3]/\Same H H'/\(∀ x ∈ xs,∃ p,x = V.ref p/\H p = none)/\LLat H' wl xs (grp (Dg U M) (ts.take i))) ⟨none,[],rfl,s0,(fun x h=>by cases h),⟨e0,LAt.nil,List.nodup_nil,by simp⟩⟩ (fun i σ H' _ ⟨_,_,_,s,_⟩=>s.seq hT) ?_ ?_
  ·rintro i x σ H' hi ⟨v3,xs,rfl,s,fx,ll⟩
   obtain ⟨n,en,rfl⟩:=Wk hi
   have hlt:=(List.getElem?_eq_some_iff.mp en).1
   have eg:grp (Dg U M) (ts.take (i + 1)) = Lr (Dg U M) (grp (Dg U M) (ts.take i)) n:=by rw [Dd en,Wo]
   have hli:=ll.li
   have hxl:xs.length <= 300:=by
    have:=(Gd (Dg U M) (ts.take i)).ln
    rw [<- ll.at'.1,List.length_take] at this
    omega
   have hB':=hB.mono (H':=H') fun _ _ e _=>s _ _ e
   walk_at "rd"
   refine Yq (fun h=>?_) (fun h=>?_)
   ·have hz:grp (Dg U M) (ts.take i) = []\/Dg U M n = false:=.inl (List.eq_nil_of_length_eq_zero (by
     have h':((xs.length:Nat):Int) = 0:=of_decide_eq_true h
     rw [<- ll.at'.1]; omega))
    refine Ja ?_
    walk_at "rd"
    refine ⟨by decide,fun p H2 hp s2 e2=>?_⟩
    walk_at "rd"
    walk_at "rd"
    refine Fg (s2 _ _ hli) (Fj (by omega)) fun H3 c3 e3=>?_
    have npw:p ≠ wl:=(Br hli hp).symm
    have e2':=c3 _ _ e2 npw
    walk_at "rd"
    refine Va (SqL.of e3) ?_ (Gk _ _)
    walk_at "rd"
    walk_at "rd"
    refine Fg e2' (by decide) fun H4 c4 e4=>?_
    walk_at "rd"
    refine ⟨_,_,rfl,((s.trans s2).chg c3 hwl).chg c4 (s.free hp),fun x hx=>?_,by rw [eg,Oo (by assumption)]; exact ll.push hp s2 c3 e3 c4 e4⟩
    rcases List.mem_append.mp hx with w | w
    ·exact fx x w
    ·exact ⟨p,List.mem_singleton.mp w,s.free hp⟩
   ·have h':¬ ((xs.length:Nat):Int) = 0:=fun z=>h (decide_eq_true z)
    walk_at "rd"
    rw [Ad7]
    walk_at "rd"
    refine Yq (fun h2=>?_) (fun h2=>?_)
    ·have hz:grp (Dg U M) (ts.take i) = []\/Dg U M n = false:=.inr (by
      unfold Dg
      simpa using h2)
     walk_at "rd"
     refine ⟨by decide,fun p H2 hp s2 e2=>?_⟩
     walk_at "rd"
     walk_at "rd"
     refine Fg (s2 _ _ hli) (Fj (by omega)) fun H3 c3 e3=>?_
     have npw:p ≠ wl:=(Br hli hp).symm
     have e2':=c3 _ _ e2 npw
     walk_at "rd"
     refine Va (SqL.of e3) ?_ (Gk _ _)
     walk_at "rd"
     walk_at "rd"
     refine Fg e2' (by decide) fun H4 c4 e4=>?_
     walk_at "rd"
     refine ⟨_,_,rfl,((s.trans s2).chg c3 hwl).chg c4 (s.free hp),fun x hx=>?_,by rw [eg,Oo (by assumption)]; exact ll.push hp s2 c3 e3 c4 e4⟩
     rcases List.mem_append.mp hx with w | w
     ·exact fx x w
     ·exact ⟨p,List.mem_singleton.mp w,s.free hp⟩
    ·have hm:Dg U M n = true:=by
      unfold Dg
      simpa using h2
     obtain ⟨xs',p,gs',g,rfl,eg',hp⟩:=ll.last (fun z=>h' (by rw [ll.at'.1,z]; rfl))
     rw [eg'] at ll eg
     have hgl:g.length <= 300:=by
      have z:=(Gd (Dg U M) (ts.take i)).fl
      rw [eg'] at z
      have:=congrArg List.length z
      simp at this
      omega
     walk_at "rd"
     refine Va (SqL.of hli) ?_ (Gk _ _)
     walk_at "rd"
     walk_at "rd"
     refine Fg hp (Fj (by rw [List.length_map]; omega)) fun H4 c4 e4=>?_
     walk_at "rd"
     have fp:H p = none:=by
      obtain ⟨p',e,z⟩:=fx _ (List.mem_append_right _ List.mem_cons_self)
      cases e; exact z
     exact ⟨_,_,rfl,s.chg c4 fp,fx,by rw [eg,Rt hm]; exact ll.add c4 e4⟩
  ·rintro σ H' ⟨v3,xs,rfl,s,fx,ll⟩
   rw [List.length_map,List.take_length] at ll
   walk_at "rd"
   exact q wl xs H' hwl s fx ll
def Agr:PSp:=fun ps P=>∃ U M J n r,ps = [.bk U M J,.lst (List.map .int (n :: r))]/\P (.str (knW U M (n :: r)))
theorem Aiz (T:Txt K mg t):Binds K t.d_qb ["book","whole"] []:=T.F_qb.binds (ps:=["book","whole"]) fun _ _ _ _ _ _ us hl=>match us,hl with | [_,_],_=>rfl
theorem Aij (T:Txt K mg t):FnOk P w K mg base CX0 3 t.f_qb t.d_qb ["book","whole"] (spOf K t.C_Book [false,false] .sh Agr):=by
 refine T.F_qb.ok sc_qb (fun vs H Q E h=>h.len) (fun cdv A outer s H vs Q E hr h=>?_)
 have hu:=Co hr
 have hu64:=hr.units
 refine ⟨_,(Bg (Bz (i:=2) sc_qb.nd rfl (Or.inl rfl) (Xm (pv 0) T.cl_Book T.M_qt (AdZ T) (hr.mono (by decide)) (AgR T) .nil Bt (Ba (Cp (Cw K) (pv 1) Be (fun _ _=>rfl)) Bb)))
   (Bg (Dp (Ck Ga (pv 2) Bv (Ci _))
    (Bp (Cb Bv))
    Cz)
   (Bp (Cb (pv 2))))),?_⟩
 try dsimp only [Cf,Bx]
 refine Cy h (by decide) (Bw (Cr (AeK Bd (EU.eb (Do Bd (EU.eb Bf)))))
   (Bw (Fs (Dw (EU.eb (Re Bd (EU.eb Ca))))
    (Dj Ca)
    Ds)
   (Dj Lf))) (fun ps P hp=>?_)
 clear h hu hu64 hr
 obtain ⟨U,M,J,n,r,rfl,q⟩:=hp
 simp only [Dh,List.zipWith_cons_cons,List.zipWith_nil_left,List.zipWith_nil_right,List.length_cons,List.length_nil,Nat.zero_add,Nat.reduceAdd,Nat.reduceSub,List.replicate_succ,List.replicate_zero,Bool.false_eq_true,if_false,if_true,List.cons_append,List.nil_append,Fo]
 walk_at "pr"
 refine Gh (l:=n :: r) (j:=0) (a:=n) rfl rfl ?_
 walk_at "pr"
 refine Yq (fun h=>?_) (fun h=>?_)
 ·walk_at "pr"
  have e:knW U M (n :: r) = "plain":=if_pos h
  rw [e] at q
  exact q
 ·walk_at "pr"
  have e:knW U M (n :: r) = Gq U M n:=if_neg h
  rw [e] at q
  exact q
def AaL:PSp:=fun ps P=>∃ U M J ts,ps = [.bk U M J,.lst (List.map .int ts)]/\ts.length <= 300/\P (.lst (List.map (fun w=>PV.str (knW U M w)) (grp (Dg U M) ts)))
theorem Aib (T:Txt K mg t):Binds K t.d_qbe ["book","text"] []:=T.F_qbe.binds (ps:=["book","text"]) fun _ _ _ _ _ _ us hl=>match us,hl with | [_,_],_=>rfl
theorem AgA (T:Txt K mg t):FnOk P w K mg base CX0 4 t.f_qbe t.d_qbe ["book","text"] (spOf K t.C_Book [false,false] .fr AaL):=by
 refine T.F_qbe.ok AgM (fun vs H Q E h=>h.len) (fun cdv A outer s H vs Q E hr h=>?_)
 have hu:=Co hr
 have hu64:=hr.units
 refine ⟨_,(Bp (Cb (Rx 1 [0] ["whole","book"] ["book"] rfl (Dr (Bm (AgH T) (hr.mono (by decide)) rfl T.m_qbb T.F_qbb.kp (Aic T) .nil Bt (Ba (pv 0) (Ba (pv 1) Bb)))) rfl (fun j y e1 i e2=>match j,e1,e2 with | 0,e1,e2=>by cases e1; cases e2; exact ⟨rfl,rfl,rfl,by decide +kernel⟩ | _ + 1,_,e2=>by simp at e2) (List.forall_mem_cons.mpr ⟨rfl,fun _ h=>nomatch h⟩) (by decide +kernel) (fun _ _ _ _=>(Cd (i:=0) (show List.Nodup (["whole","book"]:List Str) by decide +kernel) rfl (Or.inl rfl))) (fun _ _ _ _=>Tf) (fun _ _ _ _=>(Bm (Aij T) (hr.mono (by decide)) rfl T.m_qb T.F_qb.kp (Aiz T) .nil Bt (Ba (pv 1) (Ba (pv 0) Bb)))) rfl (by decide +kernel) rfl (by decide +kernel)))),?_⟩
 try dsimp only [Cf,Bx]
 refine Cy h (by decide) (Rl (Tp (EU.eb (AgC (Bu Bd (Bu Bd Bk)))) (Dx (top:=1)) Tm (Cl (Bu Bd (Bu Bd Bk))))) (fun ps P hp=>?_)
 clear h hu hu64 hr
 obtain ⟨U,M,J,ts,rfl,hl,q⟩:=hp
 simp only [Dh,List.zipWith_cons_cons,List.zipWith_nil_left,List.zipWith_nil_right,List.length_cons,List.length_nil,Nat.zero_add,Nat.reduceAdd,Nat.reduceSub,List.replicate_succ,List.replicate_zero,Bool.false_eq_true,if_false,if_true,List.cons_append,List.nil_append,Fo]
 have gl:=(Gd (Dg U M) ts).ln
 walk_at "pr"
 refine ⟨U,M,J,ts,rfl,hl,?_⟩
 walk_at "pr"
 refine ⟨by rw [List.length_map]; omega,?_⟩
 refine Th (f:=fun w:List Int=>some (.str (knW U M w))) ?_ (fun d hd Z hZ=>?_)
 rotate_left
 ·obtain ⟨n,r,rfl,hr⟩:=(Gd (Dg U M) ts).ne d hd
  walk_at "pr"
  refine ⟨U,M,J,n,r,rfl,?_⟩
  exact hZ
 rw [show (grp (Dg U M) ts).filterMap (fun w=>some (PV.str (knW U M w))) = (grp (Dg U M) ts).map fun w=>PV.str (knW U M w) from congrFun (List.filterMap_eq_map (f:=fun w=>PV.str (knW U M w))) _]
 exact q
theorem Qb (T:Txt K mg t):Binds K t.d_qi ["_law_script","_law_k"] []:=T.F_qi.binds (ps:=["_law_script","_law_k"]) fun _ _ _ _ _ _ us hl=>match us,hl with | [_,_],_=>rfl
theorem Lp (T:Txt K mg t):FnOk P w K mg base CX0 1 t.f_qi t.d_qi ["_law_script","_law_k"] (spOf K t.C_Book [false,false] .sh AfB):=by
 refine T.F_qi.ok Aig (fun vs H Q E h=>h.len) (fun cdv A outer s H vs Q E hr h=>?_)
 have hu:=Co hr
 have hu64:=hr.units
 refine ⟨_,(Bg (Dp (Ck Zi (pv 1) (Cq (Db K) rfl T.z_len PySem.boot_len (Ba (pv 0) Bb)) (Ci _))
    (Bp (Cb (Cc Dy (Cp (Cw K) (pv 0) (pv 1) (fun _ _=>rfl)) (Cc Oz Be Be))))
    Cz)
   (Bp (Cb Be))),?_⟩
 try dsimp only [Cf,Bx]
 refine Cy h (by decide) (Bw (Fs (Dw (EU.eb (Da (fun _ _ _=>.bl _) Bd (EU.eb (Gi (Bu Bd Bk))))))
    (Dj (Dl (fun _ _ _=>.int _) (EU.eb (Do Bd Bd)) (EU.eb (Dl (fun _ _ _=>.int _) (EU.eb Bf) (EU.eb Bf)))))
    Ds)
   (Dj Bf)) (fun ps P hp=>?_)
 clear h hu hu64 hr
 obtain ⟨ns,k,rfl,hl,q⟩:=hp
 simp only [Dh,List.zipWith_cons_cons,List.zipWith_nil_left,List.zipWith_nil_right,List.length_cons,List.length_nil,Nat.zero_add,Nat.reduceAdd,Nat.reduceSub,List.replicate_succ,List.replicate_zero,Bool.false_eq_true,if_false,if_true,List.cons_append,List.nil_append,Fo]
 unfold cM at q
 walk_at "pr"
 by_cases hk:k < ns.length
 ·rw [decide_eq_true (by omega:(k:Int) < (ns.length:Int))]
  rw [if_pos hk,List.getElem?_eq_getElem hk] at q
  walk_at "pr"
  refine AhA (n:=ns[k]) (Ju (List.getElem?_eq_getElem hk)) ?_
  walk_at "pr"
  rotate_left
  ·decide
  ·exact ⟨by decide,by decide,by decide⟩
  ·exact q
 ·rw [decide_eq_false (by omega:¬ (k:Int) < (ns.length:Int))]
  rw [if_neg hk] at q
  walk_at "pr"
  exact q
theorem Gu (T:Txt K mg t):Binds K t.d_qbg ["_law_script","_law_k"] []:=T.F_qbg.binds (ps:=["_law_script","_law_k"]) fun _ _ _ _ _ _ us hl=>match us,hl with | [_,_],_=>rfl
theorem Fx (T:Txt K mg t):FnOk P w K mg base CX0 2 t.f_qbg t.d_qbg ["_law_script","_law_k"] (spOf K t.C_Book [false,false] .sh AeA):=by
 refine T.F_qbg.ok sc_qbg (fun vs H Q E h=>h.len) (fun cdv A outer s H vs Q E hr h=>?_)
 have hu:=Co hr
 have hu64:=hr.units
 refine ⟨_,(Bg (Bz (i:=2) sc_qbg.nd rfl (Or.inl rfl) (Cc Dy (Bm (Lp T) (hr.mono (by decide)) rfl T.m_qi T.F_qi.kp (Qb T) .nil Bt (Ba (pv 0) (Ba Be Bb))) (Cc Oz Be Be)))
   (Bg (Bz (i:=3) sc_qbg.nd rfl (Or.inl rfl) (Cc Dz Be (Cc Dy (Bm (Lp T) (hr.mono (by decide)) rfl T.m_qi T.F_qi.kp (Qb T) .nil Bt (Ba (pv 0) (Ba Be Bb))) (Cc Oz Be Be))))
   (Bp (Cb (Cc Dz (pv 2) (Cc AbU (Cc Dy (Cc AbU (Cc Dz Be (Cc Dy (Bm (Lp T) (hr.mono (by decide)) rfl T.m_qi T.F_qi.kp (Qb T) .nil Bt (Ba (pv 0) (Ba Be Bb))) Be)) (pv 1)) Be) (pv 3))))))),?_⟩
 try dsimp only [Cf,Bx]
 refine Cy h (by decide) (Bw (Cr (Dl (fun _ _ _=>.int _) (EU.eb (Cl (Bu Bd (Bu (EU.eb Bf) Bk)))) (EU.eb (Dl (fun _ _ _=>.int _) (EU.eb Bf) (EU.eb Bf)))))
   (Bw (Cr (Da (fun _ _ _=>.int _) (EU.eb Bf) (EU.eb (Dl (fun _ _ _=>.int _) (EU.eb (Cl (Bu Bd (Bu (EU.eb Bf) Bk)))) (EU.eb (Dl (fun _ _ _=>.int _) (EU.eb Bf) (EU.eb Bf)))))))
   (Dj (Da (fun _ _ _=>.int _) Bd (EU.eb (Dl (fun _ _ _=>.int _) (EU.eb (Dl (fun _ _ _=>.int _) (EU.eb (Dl (fun _ _ _=>.int _) (EU.eb (Da (fun _ _ _=>.int _) (EU.eb Bf) (EU.eb (Dl (fun _ _ _=>.int _) (EU.eb (Cl (Bu Bd (Bu (EU.eb Bf) Bk)))) (EU.eb Bf))))) Bd)) (EU.eb Bf))) Bd)))))) (fun ps P hp=>?_)
 clear h hu hu64 hr
 obtain ⟨ns,k,rfl,hl,hk,q⟩:=hp
 simp only [Dh,List.zipWith_cons_cons,List.zipWith_nil_left,List.zipWith_nil_right,List.length_cons,List.length_nil,Nat.zero_add,Nat.reduceAdd,Nat.reduceSub,List.replicate_succ,List.replicate_zero,Bool.false_eq_true,if_false,if_true,List.cons_append,List.nil_append,Fo]
 unfold sgF at q
 walk_at "pr"
 refine ⟨ns,0,rfl,hl,?_⟩
 walk_at "pr"
 refine ⟨ns,1,rfl,hl,?_⟩
 walk_at "pr"
 refine ⟨ns,1,rfl,hl,?_⟩
 walk_at "pr"
 all_goals try (first | decide | exact ⟨by decide,by decide,by decide⟩ | (show CMul _ _; first | exact .inl ⟨by omega,by omega⟩ | exact .inr ⟨by omega,by omega⟩))
 exact q
theorem Ad9 (T:Txt K mg t):Binds K t.d_qbi ["_law_script"] []:=T.F_qbi.binds (ps:=["_law_script"]) fun _ _ _ _ _ _ us hl=>match us,hl with | [_],_=>rfl
theorem Abd (T:Txt K mg t):FnOk P w K mg base CX0 3 t.f_qbi t.d_qbi ["_law_script"] (spOf K t.C_Book [false] .fr AeW):=by
 refine T.F_qbi.ok sc_qbi (fun vs H Q E h=>h.len) (fun cdv A outer s H vs Q E hr h=>?_)
 have hu:=Co hr
 have hu64:=hr.units
 refine ⟨_,(@Bg _ _ _ _ _ (Bz (i:=1) sc_qbi.nd rfl (Or.inl rfl) (Bm (Lp T) (hr.mono (by decide)) rfl T.m_qi T.F_qi.kp (Qb T) .nil Bt (@Ba _ _ _ _ _ (pv 0) (@Bh _ _ _ _ _ _ _ Be Bb) rfl)))
   (@Bg _ _ _ _ _ (@Bz _ _ 2 _ _ _ _ sc_qbi.nd rfl (Or.inl rfl) (@Cj _ _ _ _ (@Bh _ _ _ _ _ _ _ Be (@Ba _ _ _ _ _ (Cc Dz Be (Cc Dy (Bm (Lp T) (hr.mono (by decide)) rfl T.m_qi T.F_qi.kp (Qb T) .nil Bt (@Ba _ _ _ _ _ (pv 0) (@Bh _ _ _ _ _ _ _ Be Bb) rfl)) Be)) (@Ba _ _ _ _ _ (Cc Dz Be (Cc Dy (Cc Nd (Bm (Lp T) (hr.mono (by decide)) rfl T.m_qi T.F_qi.kp (Qb T) .nil Bt (@Ba _ _ _ _ _ (pv 0) (@Bh _ _ _ _ _ _ _ Be Bb) rfl)) Be) (Cc Qu (Cc Oz Be Be) Be))) Bb rfl) rfl))) rfl (by first | exact .inl rfl | exact .inr rfl))
   (@Bg _ _ _ _ _ (@Bz _ _ 3 _ _ _ _ sc_qbi.nd rfl (Or.inl rfl) (@Cj _ _ _ _ (@Bh _ _ _ _ _ _ _ Bv (@Bh _ _ _ _ _ _ _ Bv (@Bh _ _ _ _ _ _ _ Bv (@Bh _ _ _ _ _ _ _ Bv (@Bh _ _ _ _ _ _ _ Bv (@Bh _ _ _ _ _ _ _ Bv (@Bh _ _ _ _ _ _ _ Bv (@Bh _ _ _ _ _ _ _ Bv (@Bh _ _ _ _ _ _ _ Bv Bb)))))))))) rfl (by first | exact .inl rfl | exact .inr rfl))
   (@Bg _ _ _ _ _ (Dn PassesOwn.never rfl (Ql rfl T.z_range (@Bh _ _ _ _ _ _ _ Be Bb)) (Cd (i:=4) sc_qbi.nd rfl (Or.inl rfl))
    (@Bg _ _ _ _ _ (@Bz _ _ 5 _ _ _ _ sc_qbi.nd rfl (Or.inl rfl) (@Cj _ _ _ _ (@Bh _ _ _ _ _ _ _ Bv (@Bh _ _ _ _ _ _ _ Bv (@Bh _ _ _ _ _ _ _ Bv (@Bh _ _ _ _ _ _ _ Bv (@Bh _ _ _ _ _ _ _ Bv (@Bh _ _ _ _ _ _ _ Bv (@Bh _ _ _ _ _ _ _ Bv (@Bh _ _ _ _ _ _ _ Bv (@Bh _ _ _ _ _ _ _ Bv (@Bh _ _ _ _ _ _ _ Bv Bb))))))))))) rfl (by first | exact .inl rfl | exact .inr rfl))
   (@Bg _ _ _ _ _ (Ce (Jc PySem.F.plainAttrs_list PySem.F.slot_list_append PySem.F.type_list_append Dq (pv 3) (@Ba _ _ _ _ _ (@Cp _ _ _ _ _ _ _ (Cw K) (pv 5) (Cc Dy (pv 1) Be) (fun _ _=>rfl)) Bb rfl)))
   (@Bp _ _ _ (Bz (i:=1) sc_qbi.nd rfl (Or.inl rfl) (Cc Nd (pv 1) Be))))))
   (@Bg _ _ _ _ _ (Bz (i:=3) sc_qbi.nd rfl (Or.inl rfl) (Cc Ta (pv 3) (@Cj _ _ _ _ (@Bh _ _ _ _ _ _ _ Bv (@Bh _ _ _ _ _ _ _ Bv (@Bh _ _ _ _ _ _ _ Bv (@Bh _ _ _ _ _ _ _ Bv (@Bh _ _ _ _ _ _ _ Bv (@Bh _ _ _ _ _ _ _ Bv (@Bh _ _ _ _ _ _ _ Bv (@Bh _ _ _ _ _ _ _ Bv (@Bh _ _ _ _ _ _ _ Bv (@Bh _ _ _ _ _ _ _ Bv (@Bh _ _ _ _ _ _ _ Bv (@Bh _ _ _ _ _ _ _ Bv Bb)))))))))))))))
   (@Bg _ _ _ _ _ (Bz (i:=6) sc_qbi.nd rfl (Or.inl rfl) Jw)
   (@Bg _ _ _ _ _ (Bz (i:=7) sc_qbi.nd rfl (Or.inl rfl) Be)
   (@Bg _ _ _ _ _ (Dn PassesOwn.never rfl (Ql rfl T.z_range (@Bh _ _ _ _ _ _ _ Be Bb)) (Cd (i:=4) sc_qbi.nd rfl (Or.inl rfl))
    (@Bg _ _ _ _ _ (Bz (i:=8) sc_qbi.nd rfl (Or.inl rfl) Be)
   (@Bg _ _ _ _ _ (Dp (Ck Ga (@Cp _ _ _ _ _ _ _ (Cw K) (pv 3) (pv 4) (fun _ _=>rfl)) Bv (Ci _))
    (@Bg _ _ _ _ _ (Bz (i:=8) sc_qbi.nd rfl (Or.inl rfl) (@Cp _ _ _ _ _ _ _ (Cw K) (pv 2) (Cc Dy (pv 7) Be) (fun _ _=>rfl)))
   (@Bp _ _ _ (Bz (i:=7) sc_qbi.nd rfl (Or.inl rfl) (Cc Dz (pv 7) Be))))
    Cz)
   (@Bp _ _ _ (Gp hu (pv 6) (Bm (Fx T) (hr.mono (by decide)) rfl T.m_qbg T.F_qbg.kp (Gu T) .nil Bt (@Ba _ _ _ _ _ (pv 0) (@Ba _ _ _ _ _ (pv 4) Bb rfl) rfl)) (@Di _ _ _ _ _ (@Ba _ _ _ _ _ (@Cp _ _ _ _ _ _ _ (Cw K) (pv 3) (pv 4) (fun _ _=>rfl)) (@Ba _ _ _ _ _ (pv 8) Bb rfl) rfl)) rfl)))))
   (@Bp _ _ _ (@Cb _ _ _ _ (pv 6))))))))))),?_⟩
 try dsimp only [Cf,Bx]
 refine Cy h (by decide) (Bw (Cr (Cl (Bu Bd (Bu (EU.eb Bf) Bk))))
   (Bw (Cr (EF.eu (Cv 3 (Bn Bf (Bn (Da (fun _ _ _=>.int _) (EU.eb Bf) (EU.eb (Dl (fun _ _ _=>.int _) (EU.eb (Cl (Bu Bd (Bu (EU.eb Bf) Bk)))) (EU.eb Bf)))) (Bn (Da (fun _ _ _=>.int _) (EU.eb Bf) (EU.eb (Dl (fun _ _ _=>.int _) (EU.eb (Dl (fun _ _ _=>.int _) (EU.eb (Cl (Bu Bd (Bu (EU.eb Bf) Bk)))) (EU.eb Bf))) (EU.eb (Da (fun _ _ _=>.int _) (EU.eb (Dl (fun _ _ _=>.int _) (EU.eb Bf) (EU.eb Bf))) (EU.eb Bf)))))) Bk))))))
   (Bw (Fr (Cv 9 (Bn Ca (Bn Ca (Bn Ca (Bn Ca (Bn Ca (Bn Ca (Bn Ca (Bn Ca (Bn Ca Bk)))))))))))
   (Bw (Xt (Bu (EU.eb Bf) Bk) (Dx (top:=9))
    (Bw (Cr (EF.eu (Cv 10 (Bn Ca (Bn Ca (Bn Ca (Bn Ca (Bn Ca (Bn Ca (Bn Ca (Bn Ca (Bn Ca (Bn Ca Bk)))))))))))))
   (Bw (Qg (Bn (Do Bd (EU.eb (Dl (fun _ _ _=>.int _) Bd (EU.eb Bf)))) Bk))
   (Cr (Dl (fun _ _ _=>.int _) Bd (EU.eb Bf))))))
   (Bw (Fr (Vh Bd (EF.eb (Cv 12 (Bn Ca (Bn Ca (Bn Ca (Bn Ca (Bn Ca (Bn Ca (Bn Ca (Bn Ca (Bn Ca (Bn Ca (Bn Ca (Bn Ca Bk))))))))))))))))
   (Bw (Fr Afe)
   (Bw (Cr Bf)
   (Bw (Xt (Bu (EU.eb Bf) Bk) (Dx (top:=9))
    (Bw (Cr Bf)
   (Bw (Fs (Dw (EU.eb (Re (EU.eb (Do Bd Bd)) (EU.eb Ca))))
    (Bw (Cr (Do Bd (EU.eb (Dl (fun _ _ _=>.int _) Bd (EU.eb Bf)))))
   (Cr (Da (fun _ _ _=>.int _) Bd (EU.eb Bf))))
    Ds)
   (AeC (EU.eb (Cl (Bu Bd (Bu Bd Bk)))) (Du 2 (Bn (Do Bd Bd) (Bn Lf Bk)))))))
   Tn)))))))) (fun ps P hp=>?_)
 clear h hu hu64 hr
 obtain ⟨ns,rfl,hl,q⟩:=hp
 simp only [Dh,List.zipWith_cons_cons,List.zipWith_nil_left,List.zipWith_nil_right,List.length_cons,List.length_nil,Nat.zero_add,Nat.reduceAdd,Nat.reduceSub,List.replicate_succ,List.replicate_zero,Bool.false_eq_true,if_false,if_true,List.cons_append,List.nil_append,Fo]
 walk_at "pr"
 refine ⟨ns,2,rfl,hl,?_⟩
 walk_at "pr"
 refine ⟨ns,3,rfl,hl,?_⟩
 walk_at "pr"
 refine ⟨ns,3,rfl,hl,?_⟩
 walk_at "pr"
 all_goals try (first | decide | exact ⟨by decide,by decide,by decide⟩ | exact ⟨by decide,by decide⟩ | (show (0:Int) < _; decide))
 have eR:([PV.int 1,PV.int (1 + cM ns 3 % 3),PV.int (1 + cM ns 3 / 3 % (10 ^ Int.toNat 30 - 1))]:List PV) = (La ns).map .int:=rfl
 rw [eR]
 refine ⟨fun k ρ=>∃ (c:Int) (ds:List Str) (v4 v5:Sl),ρ = [.bo (.scr ns),.sh (.int c),.sh (.lst ((La ns).map .int)),.ow (.lst ((kdH ++ ds).map .str)),v4,v5,.un,.un,.un]/\k <= 7/\ds.length = k/\ds ++ Dv (7 - k) c = Dv 7 (cM ns 2),⟨cM ns 2,[],_,_,rfl,by omega,rfl,rfl⟩,?_,?_⟩
 ·rintro k ρ hk ⟨c,ds,v4,v5,rfl,hk7,ld,ed⟩
  have hk':k < 7:=hk
  have h1:=Int.emod_nonneg c (show (10:Int) ≠ 0 by decide)
  have h2:=Int.emod_lt_of_pos c (show (0:Int) < 10 by decide)
  have hi:(c % 10).toNat < menuK.length:=by show _ < 10; omega
  rw [show 7 - k = (7 - (k + 1)) + 1 by omega,Dv,List.getElem?_eq_getElem hi] at ed
  walk_at "pr"
  all_goals try (first | decide | exact ⟨by decide,by decide⟩ | (rw [List.length_map,List.length_append]; show 9 + _ < _; omega))
  refine Gh (l:=menuK) (f:=PV.str) (j:=(c % 10).toNat) (a:=menuK[(c % 10).toNat]) (List.getElem?_eq_getElem hi) (by omega) ?_
  walk_at "pr"
  all_goals try (first | decide | exact ⟨by decide,by decide⟩ | (rw [List.length_map,List.length_append]; show 9 + _ < _; omega))
  rw [show (kdH ++ ds).map PV.str ++ [PV.str menuK[(c % 10).toNat]] = (kdH ++ (ds ++ [menuK[(c % 10).toNat]])).map PV.str by simp]
  exact ⟨c / 10,ds ++ [menuK[(c % 10).toNat]],_,_,rfl,by omega,by simp [ld],by rw [List.append_assoc]; exact ed⟩
 rintro ρ ⟨c,ds,v4,v5,rfl,hk7,ld,ed⟩
 have ed':ds = Dv 7 (cM ns 2):=by
  have:ds ++ Dv 0 c = Dv 7 (cM ns 2):=ed
  rw [Dv,List.append_nil] at this
  exact this
 subst ed'
 walk_at "pr"
 all_goals try (first | decide | exact ⟨by decide,by decide⟩ | (rw [List.length_map,List.length_append,Fh]; decide))
 have eK:((kdH ++ Dv 7 (cM ns 2)).map PV.str ++ ([PV.str "open",PV.str "shut",PV.str "open",PV.str "shut",PV.str "fore",PV.str "fore",PV.str "back",PV.str "plain",PV.str "num",PV.str "blank",PV.str "plain",PV.str "plain"]:List PV)) = (kdL ns).map PV.str:=by
  unfold kdL
  rw [List.map_append (l₁:=kdH ++ Dv 7 (cM ns 2))]; rfl
 rw [eK]
 refine ⟨fun k ρ=>∃ (v4 v8:Sl),k <= 28/\ρ = [.bo (.scr ns),.sh (.int c),.sh (.lst ((La ns).map .int)),.ow (.lst ((kdL ns).map .str)),v4,v5,.ow (.dk (tdD ns k)),.sh (.int (mkN ns k)),v8],⟨_,_,Nat.zero_le _,rfl⟩,?_,?_⟩
 ·rintro k ρ hk ⟨v4,v8,hk28,rfl⟩
  have hk':k < 28:=hk
  have gk:(kdL ns)[k]? = some (kdF ns k):=by
   unfold kdF
   rw [List.getElem?_eq_getElem (by rw [Ae1]; exact hk')]; rfl
  rw [Int.zero_add]
  walk_at "px"
  refine Adk ?_
  walk_at "px"
  refine Ae4 (fun ρ=>ρ = [.bo (.scr ns),.sh (.int c),.sh (.lst ((La ns).map .int)),.ow (.lst ((kdL ns).map .str)),.sh (.int k),v5,.ow (.dk (tdD ns k)),.sh (.int (mkN ns (k + 1))),.sh (.int (rkF ns k))]) (fun ρ h=>?_) ?_
  rotate_left
  ·walk_at "pr"
   refine Gh gk rfl ?_
   walk_at "pr"
   by_cases h:kdF ns k = "mark"
   ·rw [decide_eq_true h]
    have hm:mkN ns (k + 1) = mkN ns k + 1:=by
     unfold mkN
     rw [Dd gk,List.filter_append,List.length_append]
     simp [h]
    have h3:mkN ns k % 3 < (La ns).length:=by show _ < 3; omega
    walk_at "pr"
    all_goals try decide
    refine Gh (l:=La ns) (f:=PV.int) (j:=mkN ns k % 3) (a:=(La ns)[mkN ns k % 3]) (List.getElem?_eq_getElem h3) (by omega) ?_
    walk_at "pr"
    refine .inl ?_
    rw [hm]
    unfold rkF
    rw [if_pos h,List.getElem?_eq_getElem h3]
    simp
   ·rw [decide_eq_false h]
    have hm:mkN ns (k + 1) = mkN ns k:=by
     unfold mkN
     rw [Dd gk,List.filter_append,List.length_append]
     simp [h]
    walk_at "pr"
    refine .inl ?_
    rw [hm]
    unfold rkF
    rw [if_neg h]
  subst h
  walk_at "pr"
  refine Gh gk rfl ?_
  walk_at "pr"
  refine ⟨ns,k,rfl,hl,hk',?_⟩
  walk_at "pr"
  rotate_left
  ·unfold tdD; rw [List.length_map,List.length_range]; omega
  rw [Ya ns hk']
  exact ⟨_,_,by omega,rfl⟩
 rintro ρ ⟨v4,v8,hk28,rfl⟩
 walk_at "pr"
 exact q
def Aek:PSp:=fun ps P=>∃ ns,ps = [.scr ns]/\ns.length <= 63/\P (.lst ((mtL ns).map prP))
theorem Aiy (T:Txt K mg t):Binds K t.d_qz ["_law_script"] []:=T.F_qz.binds (ps:=["_law_script"]) fun _ _ _ _ _ _ us hl=>match us,hl with | [_],_=>rfl
theorem AhS (T:Txt K mg t):FnOk P w K mg base CX0 3 t.f_qz t.d_qz ["_law_script"] (spOf K t.C_Book [false] .fr Aek):=by
 refine T.F_qz.ok AhJ (fun vs H Q E h=>h.len) (fun cdv A outer s H vs Q E hr h=>?_)
 have hu:=Co hr
 have hu64:=hr.units
 refine ⟨_,(Bp (Cb (Cj (Ba (Di (Ba (Bm (Fx T) (hr.mono (by decide)) rfl T.m_qbg T.F_qbg.kp (Gu T) .nil Bt (Ba (pv 0) (Ba Be Bb))) (Ba (Bm (Fx T) (hr.mono (by decide)) rfl T.m_qbg T.F_qbg.kp (Gu T) .nil Bt (Ba (pv 0) (Ba Be Bb))) Bb))) (Ba (Di (Ba (Bm (Fx T) (hr.mono (by decide)) rfl T.m_qbg T.F_qbg.kp (Gu T) .nil Bt (Ba (pv 0) (Ba Be Bb))) (Ba (Bm (Fx T) (hr.mono (by decide)) rfl T.m_qbg T.F_qbg.kp (Gu T) .nil Bt (Ba (pv 0) (Ba Be Bb))) Bb))) Bb))))),?_⟩
 try dsimp only [Cf,Bx]
 refine Cy h (by decide) (Rl (Cv 2 (Bn (Du 2 (Bn (Cl (Bu Bd (Bu (EU.eb Bf) Bk))) (Bn (Cl (Bu Bd (Bu (EU.eb Bf) Bk))) Bk))) (Bn (Du 2 (Bn (Cl (Bu Bd (Bu (EU.eb Bf) Bk))) (Bn (Cl (Bu Bd (Bu (EU.eb Bf) Bk))) Bk))) Bk)))) (fun ps P hp=>?_)
 clear h hu hu64 hr
 obtain ⟨ns,rfl,hl,q⟩:=hp
 simp only [Dh,List.zipWith_cons_cons,List.zipWith_nil_left,List.zipWith_nil_right,List.length_cons,List.length_nil,Nat.zero_add,Nat.reduceAdd,Nat.reduceSub,List.replicate_succ,List.replicate_zero,Bool.false_eq_true,if_false,if_true,List.cons_append,List.nil_append,Fo]
 walk_at "pr"
 refine ⟨ns,16,rfl,hl,by decide,?_⟩
 walk_at "pr"
 refine ⟨ns,17,rfl,hl,by decide,?_⟩
 walk_at "pr"
 refine ⟨ns,18,rfl,hl,by decide,?_⟩
 walk_at "pr"
 refine ⟨ns,19,rfl,hl,by decide,?_⟩
 walk_at "pr"
 exact q
abbrev jnE (t:Nat × Nat × Nat):PV:=.tup [.int (t.1:Int),.int (t.2.1:Int),.int (t.2.2:Int)]
def Aex:PSp:=fun ps P=>∃ ns,ps = [.scr ns]/\ns.length <= 63/\P (.lst ((jnL ns).map jnP))
theorem AiL (T:Txt K mg t):Binds K t.d_qx ["_law_script"] []:=T.F_qx.binds (ps:=["_law_script"]) fun _ _ _ _ _ _ us hl=>match us,hl with | [_],_=>rfl
theorem Ahk (T:Txt K mg t):FnOk P w K mg base CX0 3 t.f_qx t.d_qx ["_law_script"] (spOf K t.C_Book [false] .fr Aex):=by
 refine T.F_qx.ok sc_qx (fun vs H Q E h=>h.len) (fun cdv A outer s H vs Q E hr h=>?_)
 have hu:=Co hr
 have hu64:=hr.units
 refine ⟨_,(@Bg _ _ _ _ _ (@Bz _ _ 1 _ _ _ _ sc_qx.nd rfl (Or.inl rfl) (@Cj _ _ _ _ (@Gn _ _ _ _ _ _ _ (@Di _ _ _ _ _ (@Bh _ _ _ _ _ _ _ Be (@Bh _ _ _ _ _ _ _ Be (@Bh _ _ _ _ _ _ _ Be Bb)))) (@Gn _ _ _ _ _ _ _ (@Di _ _ _ _ _ (@Bh _ _ _ _ _ _ _ Be (@Bh _ _ _ _ _ _ _ Be (@Bh _ _ _ _ _ _ _ Be Bb)))) (@Gn _ _ _ _ _ _ _ (@Di _ _ _ _ _ (@Bh _ _ _ _ _ _ _ Be (@Bh _ _ _ _ _ _ _ Be (@Bh _ _ _ _ _ _ _ Be Bb)))) (@Gn _ _ _ _ _ _ _ (@Di _ _ _ _ _ (@Bh _ _ _ _ _ _ _ Be (@Bh _ _ _ _ _ _ _ Be (@Bh _ _ _ _ _ _ _ Be Bb)))) (@Gn _ _ _ _ _ _ _ (@Di _ _ _ _ _ (@Bh _ _ _ _ _ _ _ Be (@Bh _ _ _ _ _ _ _ Be (@Bh _ _ _ _ _ _ _ Be Bb)))) (@Gn _ _ _ _ _ _ _ (@Di _ _ _ _ _ (@Bh _ _ _ _ _ _ _ Be (@Bh _ _ _ _ _ _ _ Be (@Bh _ _ _ _ _ _ _ Be Bb)))) Bb))))))) rfl (by first | exact .inl rfl | exact .inr rfl))
   (@Bp _ _ _ (@Cb _ _ _ _ (Rx 3 [0] ["_law_a","_law_b","_law_c","_law_script"] ["_law_script"] rfl (Dr (pv 1)) rfl (fun j y e1 i e2=>match j,e1,e2 with | 0,e1,e2=>by cases e1; cases e2; exact ⟨rfl,rfl,rfl,by decide +kernel⟩ | _ + 1,_,e2=>by simp at e2) (List.forall_mem_cons.mpr ⟨rfl,fun _ h=>nomatch h⟩) (by decide +kernel) (fun _ _ _ _=>(Afa (K':=K) (n:=3) rfl rfl (Ct (Cd (i:=0) (show List.Nodup (["_law_a","_law_b","_law_c","_law_script"]:List Str) by decide +kernel) rfl (Or.inl rfl)) (Ct (Cd (i:=1) (show List.Nodup (["_law_a","_law_b","_law_c","_law_script"]:List Str) by decide +kernel) rfl (Or.inl rfl)) (Ct (Cd (i:=2) (show List.Nodup (["_law_a","_law_b","_law_c","_law_script"]:List Str) by decide +kernel) rfl (Or.inl rfl)) Gj))))) (fun _ _ _ _=>Tf) (fun _ _ _ _=>(@Di _ _ _ _ _ (@Ba _ _ _ _ _ (Bm (Fx T) (hr.mono (by decide)) rfl T.m_qbg T.F_qbg.kp (Gu T) .nil Bt (@Ba _ _ _ _ _ (pv 3) (@Ba _ _ _ _ _ (pv 0) Bb rfl) rfl)) (@Ba _ _ _ _ _ (Bm (Fx T) (hr.mono (by decide)) rfl T.m_qbg T.F_qbg.kp (Gu T) .nil Bt (@Ba _ _ _ _ _ (pv 3) (@Ba _ _ _ _ _ (pv 1) Bb rfl) rfl)) (@Ba _ _ _ _ _ (Bm (Fx T) (hr.mono (by decide)) rfl T.m_qbg T.F_qbg.kp (Gu T) .nil Bt (@Ba _ _ _ _ _ (pv 3) (@Ba _ _ _ _ _ (pv 2) Bb rfl) rfl)) Bb rfl) rfl) rfl))) rfl (by decide +kernel) rfl (by decide +kernel))))),?_⟩
 try dsimp only [Cf,Bx]
 refine Cy h (by decide) (Bw (Cr (EF.eu (Cv 6 (Bn (Du 3 (Bn Bf (Bn Bf (Bn Bf Bk)))) (Bn (Du 3 (Bn Bf (Bn Bf (Bn Bf Bk)))) (Bn (Du 3 (Bn Bf (Bn Bf (Bn Bf Bk)))) (Bn (Du 3 (Bn Bf (Bn Bf (Bn Bf Bk)))) (Bn (Du 3 (Bn Bf (Bn Bf (Bn Bf Bk)))) (Bn (Du 3 (Bn Bf (Bn Bf (Bn Bf Bk)))) Bk)))))))))
   (Rl (Tp Bd (Aft (Sd (Dx (top:=3)) (Sd (Dx (top:=3)) (Sd (Dx (top:=3)) AeE)))) Tm (Du 3 (Bn (Cl (Bu Bd (Bu Bd Bk))) (Bn (Cl (Bu Bd (Bu Bd Bk))) (Bn (Cl (Bu Bd (Bu Bd Bk))) Bk))))))) (fun ps P hp=>?_)
 clear h hu hu64 hr
 obtain ⟨ns,rfl,hl,q⟩:=hp
 simp only [Dh,List.zipWith_cons_cons,List.zipWith_nil_left,List.zipWith_nil_right,List.length_cons,List.length_nil,Nat.zero_add,Nat.reduceAdd,Nat.reduceSub,List.replicate_succ,List.replicate_zero,Bool.false_eq_true,if_false,if_true,List.cons_append,List.nil_append,Fo]
 walk_at "pr"
 refine ⟨by decide,?_⟩
 refine Th (S:=jnI) (enc:=jnE) (f:=fun t=>some (jnP (sgF ns t.1,sgF ns t.2.1,sgF ns t.2.2))) ?_ (fun d hd Z hZ=>?_)
 rotate_left
 ·obtain ⟨h1,h2,h3⟩:=Qe d hd
  walk_at "cp"
  walk_at "pr"
  refine ⟨ns,d.1,rfl,hl,h1,?_⟩
  walk_at "pr"
  refine ⟨ns,d.2.1,rfl,hl,h2,?_⟩
  walk_at "pr"
  refine ⟨ns,d.2.2,rfl,hl,h3,?_⟩
  walk_at "pr"
  exact hZ
 rw [show (fun t:Nat × Nat × Nat=>some (jnP (sgF ns t.1,sgF ns t.2.1,sgF ns t.2.2))) = fun t=>some ((jnP ∘ fun t:Nat × Nat × Nat=>(sgF ns t.1,sgF ns t.2.1,sgF ns t.2.2)) t) from rfl,List.filterMap_eq_map',<- List.map_map]
 exact q
theorem Ah8 {neg:Bool} {L:List Str} {x:Str} {P:PV->Prop} (q:P (.bl (if neg then !decide (x ∈ L) else decide (x ∈ L)))):bIn neg (.str x) (.lst (L.map .str)) P:=by
 refine ⟨L.map .str,rfl,rfl,fun y hy=>by obtain ⟨z,_,rfl⟩:=List.mem_map.mp hy; rfl,fun b hb=>?_⟩
 have:b = decide (x ∈ L):=Fd (by
  rw [hb,decide_eq_true_iff]
  constructor
  ·intro h
   obtain ⟨z,hz,e⟩:=List.mem_map.mp h
   injection e with e'
   rwa [<- e']
  ·intro h
   exact List.mem_map.mpr ⟨x,h,rfl⟩)
 rw [this]; exact q
theorem Xp (ns:List Int) (n:Nat):(tdD ns n).length = n:=by unfold tdD; rw [List.length_map,List.length_range]
theorem Aff {ns:List Int} {k:Nat} {kv:Key × PV} (h:(tdD ns 28)[k]? = some kv):k < 28/\kv = (Sum.inl (sgF ns k),.tup [.str (kdF ns k),.int (rkF ns k)]):=by
 have hk:k < 28:=by have:=(List.getElem?_eq_some_iff.mp h).1; rwa [Xp] at this
 refine ⟨hk,?_⟩
 unfold tdD at h
 rw [List.getElem?_map,List.getElem?_range hk] at h
 exact (Option.some.inj h).symm
theorem Rb (ns:List Int) {k:Nat} (hk:k < 28):Fc (tdD ns 28) (.inl (sgF ns k)) = some (.tup [.str (kdF ns k),.int (rkF ns k)]):=by
 have e:∀ n,n <= 28->k < n->Fc (tdD ns n) (.inl (sgF ns k)) = some (.tup [.str (kdF ns k),.int (rkF ns k)]):=by
  intro n
  induction n with
  | zero=>intro _ h; omega
  | succ n ih =>
   intro hn h
   rw [<- Ya ns (show n < 28 by omega),AcT]
   by_cases z:k = n
   ·subst z; rw [if_pos rfl]
   ·rw [if_neg (fun w=>z (Gm ns (by omega) hk (Sum.inl.inj w)).symm)]
    exact ih (by omega) (by omega)
 exact e 28 (Nat.le_refl _) hk
def Aeh:PSp:=fun ps P=>∃ ns,ps = [.scr ns]/\ns.length <= 63/\P (.bk (usL ns 28) (mtL ns) (jnL ns))
theorem AhK (T:Txt K mg t):Binds K t.d_qbf ["_law_script"] []:=T.F_qbf.binds (ps:=["_law_script"]) fun _ _ _ _ _ _ us hl=>match us,hl with | [_],_=>rfl
theorem AfY (T:Txt K mg t):FnOk P w K mg base CX0 7 t.f_qbf t.d_qbf ["_law_script"] (spOf K t.C_Book [false] .sh Aeh):=by
 refine T.F_qbf.ok sc_qbf (fun vs H Q E h=>h.len) (fun cdv A outer s H vs Q E hr h=>?_)
 have hu:=Co hr
 have hu64:=hr.units
 refine ⟨_,(Bg (Bz (i:=1) sc_qbf.nd rfl (Or.inl rfl) (Bm (Abd T) (hr.mono (by decide)) rfl T.m_qbi T.F_qbi.kp (Ad9 T) .nil Bt (Ba (pv 0) Bb)))
   (Bg (Bz (i:=2) sc_qbf.nd rfl (Or.inl rfl) (Cj Bb))
   (Bg (Vm (Dn PassesOwn.never rfl (Vp (pv 1)) (Cd (i:=3) sc_qbf.nd rfl (Or.inl rfl))
    (Bp (Dp (Ck (Us K) (Cp (Dt K) (Qy hu (pv 1) (pv 3) (fun _ _=>rfl)) Be (fun _ _=>rfl)) (Cj (Ba Bv (Ba Bv (Ba Bv Bb)))) rfl)
    (Bp (Ce (Jc PySem.F.plainAttrs_list PySem.F.slot_list_append PySem.F.type_list_append Dq (pv 2) (Ba (Di (Ba (pv 3) (Ba (Cp (Dt K) (Qy hu (pv 1) (pv 3) (fun _ _=>rfl)) Be (fun _ _=>rfl)) (Ba (Cp (Dt K) (Qy hu (pv 1) (pv 3) (fun _ _=>rfl)) Be (fun _ _=>rfl)) Bb)))) Bb))))
    Cz))))
   (Bp (Cb (AeJ T.K_Book (Ahp T) (hr.mono (by decide)) rfl T.m_Book (Aix T) .nil Bt (Ba (pv 2) (Ba (Bm (AhS T) (hr.mono (by decide)) rfl T.m_qz T.F_qz.kp (Aiy T) .nil Bt (Ba (pv 0) Bb)) (Ba (Bm (Ahk T) (hr.mono (by decide)) rfl T.m_qx T.F_qx.kp (AiL T) .nil Bt (Ba (pv 0) Bb)) Bb))))))))),?_⟩
 try dsimp only [Cf,Bx]
 refine Cy h (by decide) (Bw (Fr (Fu (Bu Bd Bk)))
   (Bw (Fr (Cv 0 Bk))
   (Bw (AfK (i:=1) (AcR (Dx (top:=4))
    (Fs (Dw (EU.eb (Ahw (Fe (EU.eb (Rs Bd)) (EU.eb Bf)) (EF.eb (Cv 3 (Bn Ca (Bn Ca (Bn Ca Bk))))))))
    (Qg (Bn (Du 3 (Bn Lf (Bn (Fe (EU.eb (Rs Bd)) (EU.eb Bf)) (Bn (Fe (EU.eb (Rs Bd)) (EU.eb Bf)) Bk)))) Bk))
    Ds)))
   (Dj (Ah7 (Bu Bd (Bu (EF.eb (Fu (Bu Bd Bk))) (Bu (EF.eb (Fu (Bu Bd Bk))) Bk)))))))) (fun ps P hp=>?_)
 clear h hu hu64 hr
 obtain ⟨ns,rfl,hl,q⟩:=hp
 simp only [Dh,List.zipWith_cons_cons,List.zipWith_nil_left,List.zipWith_nil_right,List.length_cons,List.length_nil,Nat.zero_add,Nat.reduceAdd,Nat.reduceSub,List.replicate_succ,List.replicate_zero,Bool.false_eq_true,if_false,if_true,List.cons_append,List.nil_append,Fo]
 walk_at "pr"
 refine ⟨ns,rfl,hl,?_⟩
 walk_at "pr"
 rename_i z
 refine Afd rfl ⟨fun k ρ=>∃ v,k <= 28/\ρ = [.bo (.scr ns),.fz z (tdD ns 28),.ow (.lst ((usL ns k).map sgP)),v],⟨_,Nat.zero_le _,rfl⟩,?_,?_,?_⟩
 ·rintro k ρ ⟨v,_,rfl⟩; rfl
 ·rintro k kv ρ hk ⟨v,hk28,rfl⟩
  obtain ⟨hk',e⟩:=Aff hk
  subst e
  have hv:=Rb ns hk'
  walk_at "pr"
  refine Vi hv ?_
  walk_at "pr"
  refine Ah8 (L:=unK) (x:=kdF ns k) ?_
  walk_at "pr"
  have hs:=Ab9 ns k
  by_cases h:kdF ns k ∈ unK
  ·rw [decide_eq_true h]
   rw [if_pos h,List.append_nil] at hs
   rw [show (if true = true then !true else true) = false from rfl]
   walk_at "pr"
   exact ⟨_,by omega,by unfold usL; rw [hs]⟩
  ·rw [decide_eq_false h]
   rw [if_neg h] at hs
   rw [show (if true = true then !false else false) = true from rfl]
   walk_at "pr"
   refine Vi hv ?_
   walk_at "pr"
   refine Vi hv ?_
   walk_at "pr"
   rotate_left
   ·rw [List.length_map]; unfold usL; rw [List.length_map]; have:=Xx ns k; omega
   refine ⟨.sh (.int (sgF ns k)),by omega,?_⟩
   unfold usL
   rw [hs,List.map_append,List.map_append]; rfl
 ·rintro ρ ⟨v,_,rfl⟩
  refine ⟨rfl,?_⟩
  walk_at "pr"
  refine ⟨ns,rfl,hl,?_⟩
  walk_at "pr"
  refine ⟨ns,rfl,hl,?_⟩
  walk_at "pr"
  rw [Xp]
  have bk:=AhH ns
  exact ⟨usL ns 28,mtL ns,jnL ns,rfl,bk.so,bk.mo,bk.nd,bk.jo,by have:=bk.ln; omega,q⟩
def mnF:List (List Nat):=[List.range 28 ++ [0,1,0,1,4,4,5,2,3,6,7,8],[0,1,2,4,5,16,17,26],[0,1,4,4,5,6,7,8,8,16,17,18,19,23]]
theorem Agi:∀ m ∈ mnF,0 < m.length/\m.length <= 40/\∀ k ∈ m,k < 28:=by decide +kernel
theorem Ua {α:Type} {ns:List α} {lo hi:Option Int}:(Nu ns lo hi).length <= ns.length:=by
 unfold Nu
 simp
 omega
def Aef:PSp:=fun ps P=>∃ ns,∃ a b:Nat,ps = [.scr ns,.int a,.int b]/\ns.length <= 63/\∀ ks:List Nat,(∀ k ∈ ks,k < 28)->ks.length <= 63->P (.lst (ks.map fun k=>.int (sgF ns k)))
theorem Ah2 (T:Txt K mg t):Binds K t.d_qbh ["_law_script","_law_start","_law_most"] []:=T.F_qbh.binds (ps:=["_law_script","_law_start","_law_most"]) fun _ _ _ _ _ _ us hl=>match us,hl with | [_,_,_],_=>rfl
theorem AfA (T:Txt K mg t):FnOk P w K mg base CX0 3 t.f_qbh t.d_qbh ["_law_script","_law_start","_law_most"] (spOf K t.C_Book [false,false,false] .fr Aef):=by
 refine T.F_qbh.ok sc_qbh (fun vs H Q E h=>h.len) (fun cdv A outer s H vs Q E hr h=>?_)
 have hu:=Co hr
 have hu64:=hr.units
 refine ⟨_,(@Bg _ _ _ _ _ (@Bz _ _ 3 _ _ _ _ sc_qbh.nd rfl (Or.inl rfl) (@Cj _ _ _ _ (@Ba _ _ _ _ _ (Cc Ta (AaV rfl rfl T.z_list rfl T.z_range (@Bh _ _ _ _ _ _ _ Be Bb)) (@Cj _ _ _ _ (@Bh _ _ _ _ _ _ _ Be (@Bh _ _ _ _ _ _ _ Be (@Bh _ _ _ _ _ _ _ Be (@Bh _ _ _ _ _ _ _ Be (@Bh _ _ _ _ _ _ _ Be (@Bh _ _ _ _ _ _ _ Be (@Bh _ _ _ _ _ _ _ Be (@Bh _ _ _ _ _ _ _ Be (@Bh _ _ _ _ _ _ _ Be (@Bh _ _ _ _ _ _ _ Be (@Bh _ _ _ _ _ _ _ Be (@Bh _ _ _ _ _ _ _ Be Bb)))))))))))))) (@Vk _ _ _ _ _ _ (@Cj _ _ _ _ (@Bh _ _ _ _ _ _ _ Be (@Bh _ _ _ _ _ _ _ Be (@Bh _ _ _ _ _ _ _ Be (@Bh _ _ _ _ _ _ _ Be (@Bh _ _ _ _ _ _ _ Be (@Bh _ _ _ _ _ _ _ Be (@Bh _ _ _ _ _ _ _ Be (@Bh _ _ _ _ _ _ _ Be Bb))))))))) Bb) rfl)) rfl (by first | exact .inl rfl | exact .inr rfl))
   (@Bg _ _ _ _ _ (Bz (i:=4) sc_qbh.nd rfl (by first | exact Or.inl rfl | exact Or.inr rfl) (@Cp _ _ _ _ _ _ _ (Cw K) (Cc Ta (pv 3) (@Cj _ _ _ _ (@Vk _ _ _ _ _ _ (@Cj _ _ _ _ (@Bh _ _ _ _ _ _ _ Be (@Bh _ _ _ _ _ _ _ Be (@Bh _ _ _ _ _ _ _ Be (@Bh _ _ _ _ _ _ _ Be (@Bh _ _ _ _ _ _ _ Be (@Bh _ _ _ _ _ _ _ Be (@Bh _ _ _ _ _ _ _ Be (@Bh _ _ _ _ _ _ _ Be (@Bh _ _ _ _ _ _ _ Be (@Bh _ _ _ _ _ _ _ Be (@Bh _ _ _ _ _ _ _ Be (@Bh _ _ _ _ _ _ _ Be (@Bh _ _ _ _ _ _ _ Be (@Bh _ _ _ _ _ _ _ Be Bb))))))))))))))) Bb))) (Cc Dy (Cc Nd (Bm (Lp T) (hr.mono (by decide)) rfl T.m_qi T.F_qi.kp (Qb T) .nil Bt (@Ba _ _ _ _ _ (pv 0) (@Bh _ _ _ _ _ _ _ Be Bb) rfl)) Be) Be) (fun _ _=>rfl)))
   (@Bp _ _ _ (@Cb _ _ _ _ (Rx 1 [0,4] ["_law_cell","_law_script","_law_some"] ["_law_some","_law_script"] rfl (Dr (Ab6 (AcN K) (pv 0) (Yg (pv 1)) (Yg (Cc Dz (pv 1) (pv 2))))) rfl (fun j y e1 i e2=>match j,e1,e2 with | 0,e1,e2=>by cases e1; cases e2; exact ⟨rfl,rfl,rfl,by decide +kernel⟩ | 1,e1,e2=>by cases e1; cases e2; exact ⟨rfl,rfl,rfl,by decide +kernel⟩ | _ + 2,_,e2=>by simp at e2) (List.forall_mem_cons.mpr ⟨rfl,List.forall_mem_cons.mpr ⟨rfl,fun _ h=>nomatch h⟩⟩) (by decide +kernel) (fun _ _ _ _=>(Cd (i:=0) (show List.Nodup (["_law_cell","_law_script","_law_some"]:List Str) by decide +kernel) rfl (Or.inl rfl))) (fun _ _ _ _=>Tf) (fun _ _ _ _=>(Bm (Fx T) (hr.mono (by decide)) rfl T.m_qbg T.F_qbg.kp (Gu T) .nil Bt (@Ba _ _ _ _ _ (pv 1) (@Ba _ _ _ _ _ (@Cp _ _ _ _ _ _ _ (Cw K) (pv 2) (Cc Dy (Cc Dy (pv 0) (Cc Oz Be Be)) (Cq (Db K) rfl T.z_len PySem.boot_len (@Ba _ _ _ _ _ (pv 2) Bb rfl))) (fun _ _=>rfl)) Bb rfl) rfl))) rfl (by decide +kernel) rfl (by decide +kernel)))))),?_⟩
 try dsimp only [Cf,Bx]
 refine Cy h (by decide) (Bw (Cr (EF.eu (Cv 2 (Bn (EF.eu (Vh (EF.eb (AfU (Bu (EU.eb Bf) Bk))) (EF.eb (Cv 12 (Bn Bf (Bn Bf (Bn Bf (Bn Bf (Bn Bf (Bn Bf (Bn Bf (Bn Bf (Bn Bf (Bn Bf (Bn Bf (Bn Bf Bk)))))))))))))))) (Bn (EF.eu (Cv 8 (Bn Bf (Bn Bf (Bn Bf (Bn Bf (Bn Bf (Bn Bf (Bn Bf (Bn Bf Bk)))))))))) Bk)))))
   (Bw (Cr (Do (EF.eb (Vh Bd (EF.eb (Cv 1 (Bn (EF.eu (Cv 14 (Bn Bf (Bn Bf (Bn Bf (Bn Bf (Bn Bf (Bn Bf (Bn Bf (Bn Bf (Bn Bf (Bn Bf (Bn Bf (Bn Bf (Bn Bf (Bn Bf Bk)))))))))))))))) Bk))))) (EU.eb (Dl (fun _ _ _=>.int _) (EU.eb (Dl (fun _ _ _=>.int _) (EU.eb (Cl (Bu Bd (Bu (EU.eb Bf) Bk)))) (EU.eb Bf))) (EU.eb Bf)))))
   (Rl (Tp (EF.eb (Agm Bd (Yd Bd) (Yd (EU.eb (Da (fun _ _ _=>.int _) Bd Bd))))) (Dx (top:=1)) Tm (Cl (Bu Bd (Bu (EU.eb (Do Bd (EU.eb (Dl (fun _ _ _=>.int _) (EU.eb (Dl (fun _ _ _=>.int _) Bd (EU.eb (Dl (fun _ _ _=>.int _) (EU.eb Bf) (EU.eb Bf))))) (EU.eb (Gi (Bu Bd Bk))))))) Bk))))))) (fun ps P hp=>?_)
 clear h hu hu64 hr
 obtain ⟨ns,a,b,rfl,hl,q⟩:=hp
 simp only [Dh,List.zipWith_cons_cons,List.zipWith_nil_left,List.zipWith_nil_right,List.length_cons,List.length_nil,Nat.zero_add,Nat.reduceAdd,Nat.reduceSub,List.replicate_succ,List.replicate_zero,Bool.false_eq_true,if_false,if_true,List.cons_append,List.nil_append,Fo]
 walk_at "pr"
 all_goals try (first | decide | exact ⟨by decide,by decide⟩ | (show _ + _ <= _; decide +kernel))
 refine ⟨ns,3,rfl,hl,?_⟩
 walk_at "pr"
 all_goals try (first | decide | exact ⟨by decide,by decide⟩)
 have h1:=Int.emod_nonneg (cM ns 3 / 7) (show (3:Int) ≠ 0 by decide)
 have h2:=Int.emod_lt_of_pos (cM ns 3 / 7) (show (0:Int) < 3 by decide)
 have hj:(cM ns 3 / 7 % 3).toNat < mnF.length:=by show _ < 3; omega
 obtain ⟨hm1,hm2,hm3⟩:=Agi _ (List.getElem_mem hj)
 generalize em:mnF[(cM ns 3 / 7 % 3).toNat] = m at hm1 hm2 hm3
 refine Gh (l:=mnF) (f:=fun l:List Nat=>PV.lst (l.map fun k:Nat=>PV.int (k:Int))) (j:=(cM ns 3 / 7 % 3).toNat) (a:=m) (by rw [List.getElem?_eq_getElem hj,em]) (by omega) ?_
 walk_at "pr"
 refine ⟨by rw [List.length_map]; have:=Ua (ns:=ns) (lo:=some (a:Int)) (hi:=some ((a:Int) + (b:Int))); omega,?_⟩
 refine Th (enc:=PV.int) (f:=fun c=>some (.int (sgF ns ((m[(c % 10 ^ 62 % (m.length:Int)).toNat]?).getD 0)))) ?_ (fun d hd Z hZ=>?_)
 rotate_left
 ·walk_at "cp"
  walk_at "pr"
  all_goals try (first | decide | exact ⟨by decide,by decide,by decide⟩ | (rw [List.length_map]; omega))
  have g1:=Int.emod_nonneg (d % 10 ^ 62) (show (m.length:Int) ≠ 0 by omega)
  have g2:=Int.emod_lt_of_pos (d % 10 ^ 62) (show (0:Int) < (m.length:Int) by omega)
  have hk:(d % 10 ^ 62 % (m.length:Int)).toNat < m.length:=by omega
  rw [List.getElem?_eq_getElem hk] at hZ
  refine Gh (l:=m) (f:=fun k:Nat=>PV.int (k:Int)) (j:=(d % 10 ^ 62 % (m.length:Int)).toNat) (a:=m[(d % 10 ^ 62 % (m.length:Int)).toNat]) (List.getElem?_eq_getElem hk) (by rw [List.length_map]; exact (Int.toNat_of_nonneg g1).symm) ?_
  walk_at "pr"
  refine ⟨ns,_,rfl,hl,hm3 _ (List.getElem_mem hk),?_⟩
  exact hZ
 have eF:∀ l:List Int,l.filterMap (fun c=>some (PV.int (sgF ns ((m[(c % 10 ^ 62 % (m.length:Int)).toNat]?).getD 0)))) = (l.map fun c=>(m[(c % 10 ^ 62 % (m.length:Int)).toNat]?).getD 0).map fun k=>.int (sgF ns k):=fun l=>by
  rw [List.map_map]
  exact congrFun (List.filterMap_eq_map' (f:=fun c=>PV.int (sgF ns ((m[(c % 10 ^ 62 % (m.length:Int)).toNat]?).getD 0)))) l
 rw [eF]
 refine q _ (fun k hk=>?_) (by rw [List.length_map]; have:=Ua (ns:=ns) (lo:=some (a:Int)) (hi:=some ((a:Int) + (b:Int))); omega)
 obtain ⟨c,_,rfl⟩:=List.mem_map.mp hk
 cases e:m[(c % 10 ^ 62 % (m.length:Int)).toNat]? with
 | none=>show 0 < 28; omega
 | some x=>exact hm3 x (List.mem_of_getElem? e)
def MkD (H:Hp) (kvs:List (Key × V)) (m:Int->Bool) (n:Int):Prop:=(Cg kvs (Sum.inl n) = none/\m n = false)\/∃ p x r,Cg kvs (Sum.inl n) = some (.ref p)/\H p = some (.tup [.str x,.int r])/\m n = decide (x = "mark")
theorem Aim {c:Prop} [Decidable c] {A B:Prop} (h:¬ c) (q:B):if c then A else B:=by rw [if_neg h]; exact q
theorem Ah0 {c:Prop} [Decidable c] {A B:Prop} (h:c) (q:A):if c then A else B:=by rw [if_pos h]; exact q
theorem MkD.same {H H':Hp} {kvs:List (Key × V)} {m:Int->Bool} {n:Int} (h:MkD H kvs m n) (s:Same H H'):MkD H' kvs m n:=by
 rcases h with h | ⟨p,x,r,h1,h2,h3⟩
 ·exact .inl h
 ·exact .inr ⟨p,x,r,h1,s _ _ h2,h3⟩
def Uh (K:PySem.W.Frag):Sp:=fun vs H Q _=>∃ l d m kvs ts,vs = [.ref d,.ref l]/\H d = some (.dK kvs)/\SqL K H l (List.map V.int ts)/\ts.length <= 300/\(∀ n ∈ ts,MkD H kvs m n) /\
 ∀ (wl:Addr) (xs:List V) (H':Hp),H wl = none->Same H H'->(∀ x ∈ xs,∃ p,x = V.ref p/\H p = none)->LLat H' wl xs (grp m ts)->Q (.ref wl) H'
def mkG (ns:List Int):Int->Bool:=Dg (usL ns 28) (mtL ns)
theorem AaX (ns:List Int) {k:Nat} (hk:k < 28):Gq (usL ns 28) (mtL ns) (sgF ns k) = kdF ns k:=by
 have:=Ux ns hk
 unfold knd at this
 exact AeL this
def Aaf:PSp:=fun ps P=>∃ ns ks,ps = [.dk (tdD ns 28),.lst (List.map (fun k=>.int (sgF ns k)) ks)]/\(∀ k ∈ ks,k < 28)/\ks.length <= 300/\P (.lst (List.map (fun g=>PV.lst (List.map .int g)) (grp (mkG ns) (ks.map (sgF ns)))))
theorem Aaz {C:Addr} {ω:Om} {E:XK} {m n:Bool} {t:TA} {u:UA} (ha:AU K C ω [m,n] t u):EU K C ω (Nq (Uh K) [] E t) (Rh Aaf u) :=
 fun B G0 H0 own G σ H ρ P Q S hu k=>ha B G0 H0 own G σ H ρ _ _ S hu fun vs ps G1 H1 w1 ok ⟨ns,ks,e,hks,hl,h⟩=>by
  obtain ⟨v,w,p,q,rfl,e2,r2,r1⟩:=Sr ok
  rw [e] at e2; cases e2
  rw [show (List.map (fun k=>PV.int (sgF ns k)) ks) = List.map .int (ks.map (sgF ns)) by rw [List.map_map]; rfl] at r1
  obtain ⟨a,xs,rfl,ea,l⟩:=r1.lst w1.i
  rw [Qt l] at ea
  obtain ⟨d,kvs,rfl,ed,ld⟩:=r2.dk w1.i
  refine ⟨a,d,mkG ns,kvs,ks.map (sgF ns),rfl,ed,SqL.of ea,by rw [List.length_map]; exact hl,fun n hn=>?_,fun wl xs H2 hwl s2 fx ll=>?_⟩
  ·obtain ⟨j,hj,rfl⟩:=List.mem_map.mp hn
   have hj':=hks j hj
   rcases Sk (Sum.inl (sgF ns j)) ld with ⟨h1,h2⟩ | ⟨x,p,h1,h2,h3⟩
   ·rw [Rb ns hj'] at h2; cases h2
   ·rw [Rb ns hj'] at h2; cases h2
    cases h3 with
    | tup et lt rt =>
     rename_i pa us
     obtain ⟨u1,u2,eu,q1,q2⟩:∃ u1 u2,us = [u1,u2]/\Rep K C G1 u1 (.str (kdF ns j))/\Rep K C G1 u2 (.int (rkF ns j)):=by
      match us,lt,rt with
      | [u1,u2],_,rt=>exact ⟨u1,u2,rfl,rt 0 u1 _ rfl rfl,rt 1 u2 _ rfl rfl⟩
     subst eu
     cases q1
     cases q2
     exact .inr ⟨pa,kdF ns j,rkF ns j,h1,w1.i _ _ et,by unfold mkG Dg; rw [AaX ns hj']⟩
  ·refine k _ _ _ H2 (w1.trans (Of w1.i s2)) (Rep.ofL (Dk hwl ll.li) ⟨by rw [ll.at'.1,List.length_map],fun i x y hx hy=>?_⟩) h
   rw [List.getElem?_map] at hy
   obtain ⟨g,hg,rfl⟩:=Option.map_eq_some_iff.mp hy
   obtain ⟨p,e1,hp⟩:=ll.at'.2 i x g hx hg
   obtain ⟨p',e2,hn⟩:=fx x (List.mem_of_getElem? hx)
   subst e1
   cases e2
   exact Rep.ofL (Dk hn hp) (Fp g)
theorem Aiw (T:Txt K mg t):Binds K t.d_qp ["_law_told_here","_law_text_here"] []:=T.F_qp.binds (ps:=["_law_told_here","_law_text_here"]) fun _ _ _ _ _ _ us hl=>match us,hl with | [_,_],_=>rfl
theorem Ahz (T:Txt K mg t):FnOk P w K mg base CX0 1 t.f_qp t.d_qp ["_law_told_here","_law_text_here"] (Uh K):=by
 refine T.F_qp.ok sc_qp (fun vs H Q E h=>?_) (fun cdv A outer s H vs Q E hr h=>?_)
 ·obtain ⟨l,d,m,kvs,ts,rfl,hD,hT,hl,hm,q⟩:=h
  rfl
 ·obtain ⟨l,d,m,kvs,ts,rfl,hD,hT,hl,hm,q⟩:=h
  have hu:=Co hr
  have hu64:=hr.units
  refine ⟨_,(Bg (Bz (i:=2) sc_qp.nd rfl (Or.inl rfl) (Cj Bb))
   (Bg (Dn PassesOwn.never rfl (Dr (pv 1)) (Cd (i:=3) sc_qp.nd rfl (Or.inl rfl))
    (Bp (Dp (PW.pt (Gc (Ck (AaM hu64) (pv 2) (Cj Bb) (Ci _)) (Lb (Ck Rk (Cp (Ve) (Ry hu (pv 0) (pv 3) (Di (Ba Bv (Ba Be Bb))) ⟨rfl,rfl,rfl,rfl⟩) Be (fun _ _=>rfl)) Bv (Ci _)))))
    (Bp (Ce (Jc PySem.F.plainAttrs_list PySem.F.slot_list_append PySem.F.type_list_append Dq (pv 2) (Ba (Cj (Ba (pv 3) Bb)) Bb))))
    (Bp (Ce (Jc PySem.F.plainAttrs_list PySem.F.slot_list_append PySem.F.type_list_append Dq (Cp (Sz) (pv 2) (Sj Qq Be) (fun _ _=>rfl)) (Ba (pv 3) Bb)))))))
   (Bp (Cb (pv 2))))),?_⟩
  try dsimp only [Cf,Bx]
  walk_at "rd"
  refine ⟨by decide,fun wl H0 hwl s0 e0=>?_⟩
  walk_at "rd"
  refine Gy (i:=1) rfl (s0.seq hT) (fun i σ H'=>∃ v3 xs,σ = [some (.ref d),some (.ref l),some (.ref wl),v3]/\Same H H'/\(∀ x ∈ xs,∃ p,x = V.ref p/\H p = none)/\LLat H' wl xs (grp m (ts.take i))) ⟨none,[],rfl,s0,(fun x h=>by cases h),⟨e0,LAt.nil,List.nodup_nil,by simp⟩⟩ (fun i σ H' _ ⟨_,_,_,s,_⟩=>s.seq hT) ?_ ?_
  ·rintro i x σ H' hi ⟨v3,xs,rfl,s,fx,ll⟩
   obtain ⟨n,en,rfl⟩:=Wk hi
   have hlt:=(List.getElem?_eq_some_iff.mp en).1
   have eg:grp m (ts.take (i + 1)) = Lr m (grp m (ts.take i)) n:=by rw [Dd en,Wo]
   have hli:=ll.li
   have hxl:xs.length <= 300:=by
    have:=(Gd m (ts.take i)).ln
    rw [<- ll.at'.1,List.length_take] at this
    omega
   walk_at "rd"
   refine ⟨by decide,fun p0 H1 hp0 s1 ep0=>?_⟩
   have ll1:=ll.same s1
   have s':=s.trans s1
   have hli1:=ll1.li
   have hD':H1 d = some (.dK kvs):=s' _ _ hD
   have hMD:MkD H1 kvs m n:=(hm n (List.mem_of_getElem? en)).same s'
   have push:∀ H2,Same H1 H2->(grp m (ts.take i) = []\/m n = false)->∀ (p:Addr) (H3 H4:Hp),H2 p = none->Same H2 H3->H3 p = some (.lst [V.int n])->Chg wl H3 H4->H4 wl = some (.lst (xs ++ [.ref p]))->∃ v3 xs,[some (V.ref d),some (.ref l),some (.ref wl),some (.int n)] = [some (V.ref d),some (.ref l),some (.ref wl),v3]/\Same H H4/\(∀ x ∈ xs,∃ p,x = V.ref p/\H p = none)/\LLat H4 wl xs (grp m (ts.take (i + 1))):=fun H2 s2 hz p H3 H4 hp s3 e3 c4 e4=>by
    have hli3:=s3 _ _ (s2 _ _ hli1)
    have npw:p ≠ wl:=(Br (s2 _ _ hli1) hp).symm
    refine ⟨_,_,rfl,((s'.trans s2).trans s3).chg c4 hwl,fun x hx=>?_,by rw [eg,Oo hz]; exact (ll1.same s2).push hp s3 c4 e4 (fun _ _ h _=>h) (c4 _ _ e3 npw)⟩
    rcases List.mem_append.mp hx with w | w
    ·exact fx x w
    ·exact ⟨p,List.mem_singleton.mp w,(s'.trans s2).free hp⟩
   refine ⟨wl,p0,xs,[],decide (xs.length = 0),rfl,rfl,SqL.of hli1,SqL.of ep0,?_,?_⟩
   ·by_cases z:xs.length = 0
    ·exact .inr ⟨z,fun _=>true,(fun j x y _ h=>by cases h),by rw [z,decide_eq_true rfl]; rfl⟩
    ·exact .inl ⟨z,decide_eq_false z⟩
   walk_at "rd"
   by_cases hz0:xs.length = 0
   ·rw [decide_eq_true hz0]
    have hz:grp m (ts.take i) = []\/m n = false:=.inl (List.eq_nil_of_length_eq_zero (by rw [<- ll.at'.1]; exact hz0))
    refine Ja ?_
    walk_at "rd"
    refine ⟨(by decide:1 <= sizeLine),fun p H3 hp s3 e3=>?_⟩
    walk_at "rd"
    walk_at "rd"
    refine Fg (s3 _ _ hli1) (Fj (by omega)) fun H4 c4 e4=>?_
    walk_at "rd"
    exact push H1 (Same.refl _) hz p H3 H4 hp s3 e3 c4 e4
   ·rw [decide_eq_false hz0]
    rw [show (if false = true then !false else false) = false from rfl]
    refine Gz ?_
    walk_at "rd"
    refine ⟨(by decide:2 <= sizeLine),fun p2 H2 hp2 s2 e2=>?_⟩
    refine ⟨Cg kvs (Sum.inl n),DGet.k (k:=Sum.inl n) (s2 _ _ hD'),?_⟩
    obtain ⟨p3,x3,r3,e3,h3,hm3⟩:∃ q x r,(Cg kvs (Sum.inl n)).getD (.ref p2) = V.ref q/\H2 q = some (.tup [.str x,.int r])/\m n = decide (x = "mark"):=by
     rcases hMD with ⟨h1,h2⟩ | ⟨q,x,r,h1,h2,h3⟩
     ·exact ⟨p2,_,_,by rw [h1]; rfl,e2,by rw [h2]; rfl⟩
     ·exact ⟨q,x,r,by rw [h1]; rfl,s2 _ _ h2,h3⟩
    rw [e3]
    walk_at "rd"
    refine Aeb (i:=0) h3 ?_ rfl
    walk_at "rd"
    by_cases hx:x3 = "mark"
    ·have hmt:m n = true:=by rw [hm3,decide_eq_true hx]
     refine Aim (by simp [hx]) ?_
     obtain ⟨xs',p,gs',g,ex,eg',hp⟩:=(ll1.same s2).last (fun z=>hz0 (by rw [ll.at'.1,z]; rfl))
     have ll2:=ll1.same s2
     rw [eg',ex] at ll2
     rw [eg'] at eg
     have hgl:g.length <= 300:=by
      have z:=(Gd m (ts.take i)).fl
      rw [eg'] at z
      have:=congrArg List.length z
      simp at this
      omega
     walk_at "rd"
     refine Va (SqL.of ll2.li) ?_ (Gk _ _)
     walk_at "rd"
     walk_at "rd"
     refine Fg hp (Fj (by rw [List.length_map]; omega)) fun H4 c4 e4=>?_
     walk_at "rd"
     have fp:H p = none:=by
      obtain ⟨p',e,z⟩:=fx (V.ref p) (by rw [ex]; exact List.mem_append_right _ List.mem_cons_self)
      cases e; exact z
     exact ⟨_,_,rfl,(s'.trans s2).chg c4 fp,fun x hx=>fx x (by rw [ex]; exact hx),by rw [eg,Rt hmt]; exact ll2.add c4 e4⟩
    ·have hmt:m n = false:=by rw [hm3,decide_eq_false hx]
     refine Ah0 (by simp [hx]) ?_
     have hli2:=s2 _ _ hli1
     walk_at "rd"
     refine ⟨(by decide:1 <= sizeLine),fun p H3 hp s3 e3=>?_⟩
     walk_at "rd"
     walk_at "rd"
     refine Fg (s3 _ _ (s2 _ _ hli1)) (Fj (by omega)) fun H4 c4 e4=>?_
     walk_at "rd"
     exact push H2 s2 (.inr hmt) p H3 H4 hp s3 e3 c4 e4
  ·rintro σ H' ⟨v3,xs,rfl,s,fx,ll⟩
   rw [List.length_map,List.take_length] at ll
   walk_at "rd"
   exact q wl xs H' hwl s fx ll
def Ab8:PSp:=fun ps P=>∃ ns ks,ps = [.dk (tdD ns 28),.lst (List.map (fun k=>.int (sgF ns k)) ks)]/\(∀ k ∈ ks,k < 28)/\ks.length <= 300/\P (.lst (List.map (fun w=>PV.str (knW (usL ns 28) (mtL ns) w)) (grp (mkG ns) (ks.map (sgF ns)))))
theorem AiB (T:Txt K mg t):Binds K t.d_qy ["_law_told_here","_law_text_here"] []:=T.F_qy.binds (ps:=["_law_told_here","_law_text_here"]) fun _ _ _ _ _ _ us hl=>match us,hl with | [_,_],_=>rfl
theorem Ahy (T:Txt K mg t):FnOk P w K mg base CX0 2 t.f_qy t.d_qy ["_law_told_here","_law_text_here"] (spOf K t.C_Book [false,false] .fr Ab8):=by
 refine T.F_qy.ok sc_qy (fun vs H Q E h=>h.len) (fun cdv A outer s H vs Q E hr h=>?_)
 have hu:=Co hr
 have hu64:=hr.units
 refine ⟨_,(Bg (Bz (i:=2) sc_qy.nd rfl (Or.inl rfl) (Cj Bb))
   (Bg (Dn PassesOwn.never rfl (Dr (Bm (Ahz T) (hr.mono (by decide)) rfl T.m_qp T.F_qp.kp (Aiw T) .nil Bt (Ba (pv 0) (Ba (pv 1) Bb)))) (Cd (i:=3) sc_qy.nd rfl (Or.inl rfl))
    (Bg (Bz (i:=4) sc_qy.nd rfl (Or.inl rfl) (Cp (Dt K) (Ry hu (pv 0) (Cp (Cw K) (pv 3) Be (fun _ _=>rfl)) (Di (Ba Bv (Ba Be Bb))) ⟨rfl,rfl,rfl,rfl⟩) Be (fun _ _=>rfl)))
   (Bp (Ce (Jc PySem.F.plainAttrs_list PySem.F.slot_list_append PySem.F.type_list_append Dq (pv 2) (Ba (Cp (Cw K) (Cj (Ba (pv 4) (Ba Bv Bb))) (Qh Abr rfl T.z_int PyProof.Rows.boot_int (Ba (Fm Ga (pv 4) Bv (Ci _)) Bb)) (fun _ _=>rfl)) Bb))))))
   (Bp (Cb (pv 2))))),?_⟩
 try dsimp only [Cf,Bx]
 refine Cy h (by decide) (Bw (Fr (Cv 0 Bk))
   (Bw (AfD (Aaz (Bu Bd (Bu Bd Bk))) (Dx (top:=5))
    (Bw (Cr (Fe (EU.eb (AcP (EU.eb (Do Bd (EU.eb Bf))) (Du 2 (Bn Ca (Bn Bf Bk))))) (EU.eb Bf)))
   (Qg (Bn (Do (EF.eb (Cv 2 (Bn Lf (Bn Ca Bk)))) (EU.eb (AeF (Bu (EU.eb (Re Bd (EU.eb Ca))) Bk)))) Bk))))
   Tn)) (fun ps P hp=>?_)
 clear h hu hu64 hr
 obtain ⟨ns,ks,rfl,hks,hl,q⟩:=hp
 simp only [Dh,List.zipWith_cons_cons,List.zipWith_nil_left,List.zipWith_nil_right,List.length_cons,List.length_nil,Nat.zero_add,Nat.reduceAdd,Nat.reduceSub,List.replicate_succ,List.replicate_zero,Bool.false_eq_true,if_false,if_true,List.cons_append,List.nil_append,Fo]
 walk_at "pr"
 refine ⟨ns,ks,rfl,hks,hl,?_⟩
 walk_at "pr"
 have go:=Gd (mkG ns) (ks.map (sgF ns))
 have gl:=go.ln
 rw [List.length_map] at gl
 generalize hgs:grp (mkG ns) (ks.map (sgF ns)) = gs at go gl q
 refine ⟨fun k ρ=>∃ v3 v4,ρ = [.bo (.dk (tdD ns 28)),.bo (.lst (List.map (fun k=>PV.int (sgF ns k)) ks)),.ow (.lst ((gs.take k).map fun w=>PV.str (knW (usL ns 28) (mtL ns) w))),v3,v4],⟨_,_,rfl⟩,?_,?_⟩
 ·rintro k p ρ hk ⟨v3,v4,rfl⟩
  rw [List.getElem?_map] at hk
  obtain ⟨g,hg,rfl⟩:=Option.map_eq_some_iff.mp hk
  obtain ⟨n,r,rfl,hr⟩:=go.ne g (List.mem_of_getElem? hg)
  obtain ⟨j,hj,en⟩:∃ j ∈ ks,sgF ns j = n:=by
   have:n ∈ gs.flatten:=List.mem_flatten.mpr ⟨_,List.mem_of_getElem? hg,List.mem_cons_self⟩
   rw [go.fl] at this
   exact List.mem_map.mp this
  subst en
  have hj':=hks j hj
  have ek:Gq (usL ns 28) (mtL ns) (sgF ns j) = kdF ns j:=AaX ns hj'
  have e4:(gs.take k).map (fun w=>PV.str (knW (usL ns 28) (mtL ns) w)) ++ [PV.str (if kdF ns j = "mark" then "plain" else kdF ns j)] = (gs.take (k + 1)).map (fun w=>PV.str (knW (usL ns 28) (mtL ns) w)):=by
   rw [Dd hg,List.map_append]
   have:knW (usL ns 28) (mtL ns) (sgF ns j :: r) = if kdF ns j = "mark" then ("plain" : Str) else kdF ns j:=by
    rw [<- ek]
    show (if Dg (usL ns 28) (mtL ns) (sgF ns j) = true then ("plain" : Str) else Gq (usL ns 28) (mtL ns) (sgF ns j)) = _
    unfold Dg
    by_cases h:Gq (usL ns 28) (mtL ns) (sgF ns j) = "mark"
    ·rw [if_pos h,if_pos (decide_eq_true h)]
    ·rw [if_neg h,if_neg (fun z=>h (of_decide_eq_true z))]
   rw [<- this]; rfl
  have hk64:((gs.take k).map fun w=>PV.str (knW (usL ns 28) (mtL ns) w)).length < 100000:=by
   rw [List.length_map,List.length_take]; omega
  walk_at "pr"
  refine Gh (l:=sgF ns j :: r) (j:=0) (a:=sgF ns j) rfl rfl ?_
  walk_at "pr"
  rw [Rb ns hj',Option.getD_some]
  walk_at "pr"
  by_cases h:kdF ns j = "mark"
  ·rw [decide_eq_true h]
   rw [if_pos h] at e4
   rw [if_pos rfl]
   refine Abn ?_
   walk_at "pr"
   rotate_left
   ·exact hk64
   rw [e4]
   exact ⟨_,_,rfl⟩
  ·rw [decide_eq_false h]
   rw [if_neg h] at e4
   rw [if_neg (by decide)]
   refine Wd ?_
   walk_at "pr"
   rotate_left
   ·exact hk64
   rw [e4]
   exact ⟨_,_,rfl⟩
 rintro ρ ⟨v3,v4,rfl⟩
 rw [List.length_map,List.take_length]
 walk_at "pr"
 exact q
def AaA:PSp:=fun ps P=>∃ n:Int,ps = [.int n]/\P (.bl true)
theorem AcH {C:Addr} {ω:Om} {E:XK} {m:Bool} {t:TA} {u:UA} (ha:AU K C ω [m] t u):EU K C ω (Nq Se [] E t) (Rh AaA u) :=
 fun B G0 H0 own G σ H ρ P Q S hu k=>ha B G0 H0 own G σ H ρ _ _ S hu fun vs ps G1 H1 w1 ok ⟨n,e,h⟩=>by
  obtain ⟨v,p,rfl,e2,r⟩:=Gv ok
  rw [e] at e2; cases e2
  exact ⟨n,by rw [r.int]; rfl,k _ _ G1 H1 w1 (.bl _) h⟩
def Aeo:PSp:=fun ps P=>∃ w:Nat,ps = [.int w]/\1 <= w/\P .non
theorem AiD (T:Txt K mg t):Binds K t.d_qh ["width"] []:=T.F_qh.binds (ps:=["width"]) fun _ _ _ _ _ _ us hl=>match us,hl with | [_],_=>rfl
theorem Ah1 (T:Txt K mg t):FnOk P w K mg base CX0 2 t.f_qh t.d_qh ["width"] (spOf K t.C_Book [false] .sh Aeo):=by
 refine T.F_qh.ok Aih (fun vs H Q E h=>h.len) (fun cdv A outer s H vs Q E hr h=>?_)
 have hu:=Co hr
 have hu64:=hr.units
 refine ⟨_,(Bp (Dp (PW.pt (Gc (Jx (Lc (Bm (Aaa T) (hr.mono (by decide)) rfl T.m_qa T.F_qa.kp (Ace T) .nil Bt (Ba (pv 0) Bb)))) (Lb (Ck Zi (pv 0) Be (Ci _)))))
    Uf
    Cz)),?_⟩
 try dsimp only [Cf,Bx]
 refine Cy h (by decide) (Fs (Jm (Qr (Nb (EU.eb (AcH (Bu Bd Bk))))) (Dw (EU.eb (Da (fun _ _ _=>.bl _) Bd (EU.eb Bf)))))
    Acl
    Ds) (fun ps P hp=>?_)
 clear h hu hu64 hr
 obtain ⟨w,rfl,hw,q⟩:=hp
 simp only [Dh,List.zipWith_cons_cons,List.zipWith_nil_left,List.zipWith_nil_right,List.length_cons,List.length_nil,Nat.zero_add,Nat.reduceAdd,Nat.reduceSub,List.replicate_succ,List.replicate_zero,Bool.false_eq_true,if_false,if_true,List.cons_append,List.nil_append,Fo]
 walk_at "pr"
 refine ⟨_,rfl,?_⟩
 walk_at "pr"
 rw [decide_eq_false (by omega:¬ (w:Int) < 1)]
 walk_at "pr"
 exact q
def blI (kn:List Str) (a w:Nat):List Nat:=(List.range w).filter fun k=>decide (kn[a + k]? = some ("blank" : Str))
def reF (kn:List Str) (a w:Nat):Nat:=if kn.length - a <= w then kn.length else match (blI kn a w).getLast? with
 | none=>a + w
 | some k=>a + k + 1
theorem AeO {kn:List Str} {a w k:Nat} (h:(blI kn a w).getLast? = some k):k < w/\kn[a + k]? = some ("blank" : Str):=by
 have:=List.mem_of_getLast? h
 obtain ⟨h1,h2⟩:=List.mem_filter.mp this
 exact ⟨List.mem_range.mp h1,of_decide_eq_true h2⟩
theorem Sn {kn:List Str} {a w:Nat} (ha:a <= kn.length) (hw:1 <= w):a <= reF kn a w/\reF kn a w <= kn.length/\reF kn a w <= a + w/\(a < kn.length->a < reF kn a w):=by
 unfold reF
 split
 ·refine ⟨ha,Nat.le_refl _,by omega,fun h=>h⟩
 ·split
  ·refine ⟨by omega,by omega,by omega,fun h=>by omega⟩
  ·rename_i k e
   have:=(AeO e).1
   refine ⟨by omega,by omega,by omega,fun h=>by omega⟩
theorem AcQ {l:List Nat} (pw:l.Pairwise (· < ·)) {x:Nat} (hx:x ∈ l) (hm:∀ y ∈ l,y <= x):l.getLast? = some x:=by
 have ne:l ≠ []:=List.ne_nil_of_mem hx
 obtain ⟨i,z,rfl⟩:∃ i z,l = i ++ [z]:=⟨l.dropLast,l.getLast ne,(List.dropLast_concat_getLast ne).symm⟩
 rw [List.getLast?_concat]
 have h1:=hm z (List.mem_append_right _ List.mem_cons_self)
 rcases List.mem_append.mp hx with h | h
 ·have:=(List.pairwise_append.mp pw).2.2 x h z List.mem_cons_self
  omega
 ·rw [List.mem_singleton.mp h]
theorem Ag5 (kn:List Str) (a w:Nat):(blI kn a w).Pairwise (· < ·):=List.Pairwise.sublist List.filter_sublist List.pairwise_lt_range
def Wa:PSp:=fun ps P=>∃ (kn:List Str) (a w:Nat),ps = [.lst (kn.map .str),.int a,.int w]/\a <= kn.length/\kn.length <= 300/\1 <= w/\w <= 1000/\P (.int (reF kn a w:Nat))
theorem Ul {ug:PV->Bj->(Bj->Prop)->Prop} {uc:UT} {ue:UE} {ρ':Bj} {P:PV->Prop} {a n:Nat} {f:Nat->Option PV} (ha:a < 100000) (hn:n < 50000) (q:P (.lst ((List.range n).filterMap f))) (h:∀ k,k < n->∀ Z:Option PV->Prop,Z (f k)->ug (.int ((a:Int) + k)) ρ' fun ρ2=>uc ρ2 fun b=>if b = true then ue ρ2 fun q=>Z (some q) else Z none):To ug uc ue ρ' P [.int a,.int ((a:Int) + n)]:=by
 refine ⟨a,(a:Int) + n,rfl,⟨by omega,by omega,by omega,by omega⟩,by omega,fun k rs=>rs = (List.range k).filterMap f,rfl,fun k rs hk hr=>?_,fun rs hr=>?_⟩
 ·subst hr
  have hk':k < n:=by omega
  refine h k hk' (fun o=>(match o with | some q=>(List.range k).filterMap f ++ [q] | none=>(List.range k).filterMap f) = (List.range (k + 1)).filterMap f) ?_
  rw [List.range_succ,List.filterMap_append]
  cases e:f k with
  | none=>simp [List.filterMap_cons,e]
  | some x=>simp [List.filterMap_cons,e]
 ·have:((a:Int) + n - a).toNat = n:=by omega
  rw [this] at hr
  rw [hr]; exact q
theorem Ady (T:Txt K mg t):Binds K t.d_qbl ["kinds","start","width"] []:=T.F_qbl.binds (ps:=["kinds","start","width"]) fun _ _ _ _ _ _ us hl=>match us,hl with | [_,_,_],_=>rfl
theorem Abt (T:Txt K mg t):FnOk P w K mg base CX0 1 t.f_qbl t.d_qbl ["kinds","start","width"] (spOf K t.C_Book [false,false,false] .sh Wa):=by
 refine T.F_qbl.ok sc_qbl (fun vs H Q E h=>h.len) (fun cdv A outer s H vs Q E hr h=>?_)
 have hu:=Co hr
 have hu64:=hr.units
 refine ⟨_,(Bg (Dp (Ck AdU (Cc Qu (Cq (Db K) rfl T.z_len PySem.boot_len (Ba (pv 0) Bb)) (pv 1)) (pv 2) (Ci _))
    (Bp (Cb (Cq (Db K) rfl T.z_len PySem.boot_len (Ba (pv 0) Bb))))
    Cz)
   (Bg (Vv 1 [0] ["k","kinds"] ["kinds"] rfl (Ub rfl T.z_range (Ba (pv 1) (Ba (Cc Dz (pv 1) (pv 2)) Bb))) rfl (fun j y e1 i e2=>match j,e1,e2 with | 0,e1,e2=>by cases e1; cases e2; exact ⟨rfl,rfl,rfl,by decide +kernel⟩ | _ + 1,_,e2=>by simp at e2) (List.forall_mem_cons.mpr ⟨rfl,fun _ h=>nomatch h⟩) (by decide +kernel) (fun _ _ _ _=>(Cd (i:=0) (show List.Nodup (["k","kinds"]:List Str) by decide +kernel) rfl (Or.inl rfl))) (fun _ _ _ _=>(Wx (Ck Ga (Cp (Cw K) (pv 1) (pv 0) (fun _ _=>rfl)) Bv (Ci _)))) (fun _ _ _ _=>(pv 0)) rfl (by decide +kernel) rfl (by decide +kernel) (fun _=>rfl) (i:=3) sc_qbl.nd rfl (Or.inl rfl) rfl)
   (Bp (Cb (Cc Dz (AeV hr.hd rfl T.z_max (Ba (pv 3) Bb) (Ae8 (Cc Qu (Cc Dz (pv 1) (pv 2)) Be) Afs)) Be))))),?_⟩
 try dsimp only [Cf,Bx]
 refine Cy h (by decide) (Bw (Fs (Dw (EU.eb (Da (fun _ _ _=>.bl _) (EU.eb (Da (fun _ _ _=>.int _) (EU.eb (Gi (Bu Bd Bk))) Bd)) Bd)))
    (Dj (Gi (Bu Bd Bk)))
    Ds)
   (Bw (Cr (EF.eu (Tw (Bu Bd (Bu (EU.eb (Da (fun _ _ _=>.int _) Bd Bd)) Bk)) (Dx (top:=1)) (Dw (EU.eb (Re (EU.eb (Do Bd Bd)) (EU.eb Ca)))) Lf)))
   (Dj (Da (fun _ _ _=>.int _) (EU.eb (Aer (Bu Bd Bk) (Bu (EU.eb (Da (fun _ _ _=>.int _) (EU.eb (Da (fun _ _ _=>.int _) Bd Bd)) (EU.eb Bf))) Bk))) (EU.eb Bf))))) (fun ps P hp=>?_)
 clear h hu hu64 hr
 obtain ⟨kn,a,w,rfl,ha,hk,hw,hw2,q⟩:=hp
 simp only [Dh,List.zipWith_cons_cons,List.zipWith_nil_left,List.zipWith_nil_right,List.length_cons,List.length_nil,Nat.zero_add,Nat.reduceAdd,Nat.reduceSub,List.replicate_succ,List.replicate_zero,Bool.false_eq_true,if_false,if_true,List.cons_append,List.nil_append,Fo]
 unfold reF at q
 walk_at "pr"
 by_cases h:kn.length - a <= w
 ·rw [decide_eq_true (by rw [List.length_map]; omega)]
  rw [if_pos h] at q
  walk_at "pr"
  rw [List.length_map]
  exact q
 rw [decide_eq_false (by rw [List.length_map]; omega)]
 rw [if_neg h] at q
 walk_at "pr"
 refine Ul (f:=fun k=>if kn[a + k]? = some ("blank" : Str) then some (.int ((a:Int) + k)) else none) (by omega) (by omega) ?_ (fun k hk2 Z hZ=>?_)
 rotate_left
 ·have hi:a + k < kn.length:=by omega
  walk_at "cp"
  walk_at "pr"
  refine Gh (l:=kn) (f:=PV.str) (j:=a + k) (a:=kn[a + k]) (List.getElem?_eq_getElem hi) (by omega) ?_
  walk_at "pr"
  rw [List.getElem?_eq_getElem hi] at hZ
  by_cases hb:kn[a + k] = "blank"
  ·rw [decide_eq_true hb]
   rw [if_pos (by rw [hb])] at hZ
   walk_at "pr"
   exact hZ
  ·rw [decide_eq_false hb]
   rw [if_neg (fun z=>hb (Option.some.inj z))] at hZ
   walk_at "pr"
   exact hZ
 have eF:(List.range w).filterMap (fun k=>if kn[a + k]? = some ("blank" : Str) then some (PV.int ((a:Int) + k)) else none) = ((blI kn a w).map fun k:Nat=>(a:Int) + (k:Int)).map PV.int:=by
  unfold blI
  rw [List.map_map]
  generalize List.range w = l
  induction l with
  | nil=>rfl
  | cons x r ih =>
   by_cases z:kn[a + x]? = some ("blank" : Str)
   ·rw [List.filterMap_cons_some (by rw [if_pos z]),List.filter_cons_of_pos (by simp [z]),List.map_cons,ih]; rfl
   ·rw [List.filterMap_cons_none (by rw [if_neg z]),List.filter_cons_of_neg (by simp [z]),ih]
 rw [eF]
 walk_at "pr"
 refine Afk (fun h0=>?_) (fun m hm hx=>?_)
 ·have h1:blI kn a w = []:=List.map_eq_nil_iff.mp h0
  rw [h1] at q
  walk_at "pr"
  rw [show (a:Int) + (w:Int) - 1 + 1 = ((a + w:Nat):Int) by omega]
  exact q
 ·obtain ⟨k,hk3,rfl⟩:=List.mem_map.mp hm
  rw [AcQ (Ag5 kn a w) hk3 (fun y hy=>by have:=hx _ (List.mem_map.mpr ⟨y,hy,rfl⟩); omega)] at q
  walk_at "pr"
  rw [show (a:Int) + (k:Int) + 1 = ((a + k + 1:Nat):Int) by omega]
  exact q
def rwF (kn:List Str) (w:Nat):Nat->Nat->List (Nat × Nat)
 | 0,_=>[]
 | n + 1,a=>(a,reF kn a w) :: (if reF kn a w < kn.length then rwF kn w n (reF kn a w) else [])
def knL (U:List Sg) (M:List (Int × Int)) (ts:List Int):List Str:=(grp (Dg U M) ts).map (knW U M)
abbrev nn2 (p:Nat × Nat):PV:=.tup [.int (p.1:Int),.int (p.2:Int)]
def RwI (kn:List Str) (w:Nat) (R:List (Nat × Nat)) (k a:Nat):Prop:=a <= kn.length/\((∃ f,kn.length - a < f/\(a < kn.length\/kn.length = 0)/\R.drop k = rwF kn w f a)\/(a = kn.length/\R.drop k = []))
theorem RwI.zero {kn:List Str} {w:Nat} (h:kn.length <= 300):RwI kn w (rwF kn w 301 0) 0 0:=⟨Nat.zero_le _,.inl ⟨301,by omega,by omega,rfl⟩⟩
theorem RwI.step {kn:List Str} {w:Nat} {R:List (Nat × Nat)} {k a:Nat} (hw:1 <= w) (h:RwI kn w R k a) {p:Nat × Nat} (hp:R[k]? = some p):p = (a,reF kn a w)/\(reF kn a w = a->kn.length = 0)/\RwI kn w R (k + 1) (reF kn a w):=by
 obtain ⟨ha,h⟩:=h
 have hk:k < R.length:=(List.getElem?_eq_some_iff.mp hp).1
 have ed:R.drop k = p :: R.drop (k + 1):=by
  rw [List.drop_eq_getElem_cons hk]
  rw [List.getElem?_eq_getElem hk] at hp
  rw [Option.some.inj hp]
 obtain ⟨o1,o2,o3,o4⟩:=Sn (kn:=kn) ha hw
 rcases h with ⟨f,hf,hz,e⟩ | ⟨_,e⟩
 ·obtain ⟨f',rfl⟩:∃ f',f = f' + 1:=⟨f - 1,by omega⟩
  rw [rwF,ed] at e
  injection e with e1 e2
  refine ⟨e1,fun z=>?_,o2,?_⟩
  ·rcases hz with hz | hz
   ·have:=o4 hz; omega
   ·exact hz
  ·by_cases z:reF kn a w < kn.length
   ·rw [if_pos z] at e2
    have:=o4 (by omega)
    exact .inl ⟨f',by omega,.inl z,e2⟩
   ·rw [if_neg z] at e2
    exact .inr ⟨by omega,e2⟩
 ·rw [ed] at e; cases e
theorem RwI.fin {kn:List Str} {w:Nat} {R:List (Nat × Nat)} {a:Nat} (h:RwI kn w R R.length a):a = kn.length:=by
 obtain ⟨ha,h⟩:=h
 rcases h with ⟨f,hf,hz,e⟩ | ⟨e,_⟩
 ·obtain ⟨f',rfl⟩:∃ f',f = f' + 1:=⟨f - 1,by omega⟩
  rw [List.drop_length,rwF] at e; cases e
 ·exact e
theorem AgN (kn:List Str) (w n a:Nat):rwF kn w (n + 1) a ≠ []:=by rw [rwF]; exact List.cons_ne_nil _ _
theorem Aee {kn:List Str} {w n:Nat} (h:kn = []):rwF kn w (n + 1) 0 = [(0,0)]:=by
 subst h
 rw [rwF]
 have:reF [] 0 w = 0:=by unfold reF; rw [if_pos (by simp)]; rfl
 rw [this,if_neg (by simp)]
theorem AeN {rs ss:List (Nat × Nat)} (h:rs.map nn2 = ss.map nn2):rs = ss:=by
 induction rs generalizing ss with
 | nil=>cases ss with
  | nil=>rfl
  | cons s ss=>cases h
 | cons r rs ih=>cases ss with
  | nil=>cases h
  | cons s ss =>
   injection h with h1 h2
   injection h1 with h1
   injection h1 with a b
   injection a with a
   injection b with b
   injection b with b
   rw [ih h2,show r = s from Prod.ext (Int.ofNat_inj.mp a) (Int.ofNat_inj.mp b)]
theorem Ae7 {rs ss:List (Nat × Nat)}:CmpL (rs.map nn2) (ss.map nn2):=fun _ i x y hx hy=>by
 rw [List.getElem?_map] at hx hy
 obtain ⟨a,_,rfl⟩:=Option.map_eq_some_iff.mp hx
 obtain ⟨b,_,rfl⟩:=Option.map_eq_some_iff.mp hy
 refine .tup (n:=39) fun j x y h1 h2=>?_
 match j,h1,h2 with
 | 0,h1,h2=>cases h1; cases h2; exact .flat rfl rfl
 | 1,h1,h2=>cases h1; cases h2; exact .flat rfl rfl
 | _ + 2,h1,_=>simp at h1
theorem Abs {neg:Bool} {rs ss:List (Nat × Nat)} {P:PV->Prop} (q:P (.bl (if neg then !decide (rs = ss) else decide (rs = ss)))):Lq neg (.lst (rs.map nn2)) (.lst (ss.map nn2)) P:=⟨_,_,rfl,rfl,Ae7,fun b hb=>by
 have:b = decide (rs = ss):=Fd (by rw [hb,decide_eq_true_iff]; exact ⟨AeN,fun h=>by rw [h]⟩)
 rw [this]; exact q⟩
theorem Ti {rs ss:List (Nat × Nat)} {P:PV->Prop} (q:P (.bl (decide (rs = ss)))):Lq false (.lst (rs.map nn2)) (.lst (ss.map nn2)) P:=Abs (neg:=false) q
theorem Afb {rs ss:List (Nat × Nat)} {P:PV->Prop} (q:P (.bl (!decide (rs = ss)))):Lq true (.lst (rs.map nn2)) (.lst (ss.map nn2)) P:=Abs (neg:=true) q
theorem Acy {xs ys:List Str} (h:xs.map PV.str = ys.map PV.str):xs = ys:=by
 induction xs generalizing ys with
 | nil=>cases ys with
  | nil=>rfl
  | cons s ss=>cases h
 | cons r rs ih=>cases ys with
  | nil=>cases h
  | cons s ss =>
   injection h with h1 h2
   injection h1 with h1
   rw [ih h2,h1]
theorem AaU {neg:Bool} {xs ys:List Str} {P:PV->Prop} (q:P (.bl (if neg then !decide (xs = ys) else decide (xs = ys)))):Lq neg (.lst (xs.map .str)) (.lst (ys.map .str)) P:=⟨_,_,rfl,rfl,(fun _ i x y hx hy=>by
 rw [List.getElem?_map] at hx hy
 obtain ⟨a,_,rfl⟩:=Option.map_eq_some_iff.mp hx
 obtain ⟨b,_,rfl⟩:=Option.map_eq_some_iff.mp hy
 exact .flat rfl rfl),fun b hb=>by
 have:b = decide (xs = ys):=Fd (by rw [hb,decide_eq_true_iff]; exact ⟨Acy,fun h=>by rw [h]⟩)
 rw [this]; exact q⟩
theorem AeP {xs ys:List Str} {P:PV->Prop} (q:P (.bl (decide (xs = ys)))):Lq false (.lst (xs.map .str)) (.lst (ys.map .str)) P:=AaU (neg:=false) q
theorem Aev {xs ys:List Str} {P:PV->Prop} (q:P (.bl (!decide (xs = ys)))):Lq true (.lst (xs.map .str)) (.lst (ys.map .str)) P:=AaU (neg:=true) q
def Acg:PSp:=fun ps P=>∃ (U:List Sg) (M:List (Int × Int)) (J:List Jn) (ts:List Int) (w:Nat),ps = [.bk U M J,.lst (List.map .int ts),.int w]/\ts.length <= 300/\1 <= w/\w <= 1000/\P (.lst ((rwF (knL U M ts) w 301 0).map nn2))
theorem AdD (T:Txt K mg t):Binds K t.d_qbd ["book","text","width"] []:=T.F_qbd.binds (ps:=["book","text","width"]) fun _ _ _ _ _ _ us hl=>match us,hl with | [_,_,_],_=>rfl
theorem AaD (T:Txt K mg t):FnOk P w K mg base CX0 5 t.f_qbd t.d_qbd ["book","text","width"] (spOf K t.C_Book [false,false,false] .fr Acg):=by
 refine T.F_qbd.ok sc_qbd (fun vs H Q E h=>h.len) (fun cdv A outer s H vs Q E hr h=>?_)
 have hu:=Co hr
 have hu64:=hr.units
 refine ⟨_,(Bg (Ce (Bm (Ah1 T) (hr.mono (by decide)) rfl T.m_qh T.F_qh.kp (AiD T) .nil Bt (Ba (pv 2) Bb)))
   (Bg (Bz (i:=3) sc_qbd.nd rfl (Or.inl rfl) (Bm (AgA T) (hr.mono (by decide)) rfl T.m_qbe T.F_qbe.kp (Aib T) .nil Bt (Ba (pv 0) (Ba (pv 1) Bb))))
   (Bg (Bz (i:=4) sc_qbd.nd rfl (Or.inl rfl) (Cj (Ba (Di (Ba Be (Ba (Bm (Abt T) (hr.mono (by decide)) rfl T.m_qbl T.F_qbl.kp (Ady T) .nil Bt (Ba (pv 3) (Ba Be (Ba (pv 2) Bb)))) Bb))) Bb)))
   (Bg (AcU PassesOwn.never (Ck Zi (Cp (Dt K) (Cp (Cw K) (pv 4) (Sj Qq Be) (fun _ _=>rfl)) Be (fun _ _=>rfl)) (Cq (Db K) rfl T.z_len PySem.boot_len (Ba (pv 3) Bb)) (Ci _))
    (Bg (Bz (i:=5) sc_qbd.nd rfl (Or.inl rfl) (Cp (Dt K) (Cp (Cw K) (pv 4) (Sj Qq Be) (fun _ _=>rfl)) Be (fun _ _=>rfl)))
   (Bp (Ce (Jc PySem.F.plainAttrs_list PySem.F.slot_list_append PySem.F.type_list_append Dq (pv 4) (Ba (Di (Ba (pv 5) (Ba (Bm (Abt T) (hr.mono (by decide)) rfl T.m_qbl T.F_qbl.kp (Ady T) .nil Bt (Ba (pv 3) (Ba (pv 5) (Ba (pv 2) Bb)))) Bb))) Bb))))))
   (Bp (Cb (pv 4))))))),?_⟩
 try dsimp only [Cf,Bx]
 refine Cy h (by decide) (Bw (AeT (EU.eb (Cl (Bu Bd Bk))))
   (Bw (Cr (EF.eu (Fu (Bu Bd (Bu Bd Bk)))))
   (Bw (Fr (Cv 1 (Bn (Du 2 (Bn Bf (Bn (Cl (Bu Bd (Bu (EU.eb Bf) (Bu Bd Bk)))) Bk))) Bk)))
   (Bw (Acq (Dw (EU.eb (Da (fun _ _ _=>.bl _) (EU.eb (Fe (EU.eb (Do Bd (EU.eb (AcB (fun _ _=>.int _) (EU.eb Bf))))) (EU.eb Bf))) (EU.eb (Gi (Bu Bd Bk))))))
    (Bw (Cr (Fe (EU.eb (Do Bd (EU.eb (AcB (fun _ _=>.int _) (EU.eb Bf))))) (EU.eb Bf)))
   (Qg (Bn (Du 2 (Bn Lf (Bn (Cl (Bu Bd (Bu Bd (Bu Bd Bk)))) Bk))) Bk))))
   Tn)))) (fun ps P hp=>?_)
 clear h hu hu64 hr
 obtain ⟨U,M,J,ts,w,rfl,hl,hw,hw2,q⟩:=hp
 simp only [Dh,List.zipWith_cons_cons,List.zipWith_nil_left,List.zipWith_nil_right,List.length_cons,List.length_nil,Nat.zero_add,Nat.reduceAdd,Nat.reduceSub,List.replicate_succ,List.replicate_zero,Bool.false_eq_true,if_false,if_true,List.cons_append,List.nil_append,Fo]
 have gl:=(Gd (Dg U M) ts).ln
 have kl:(knL U M ts).length = (grp (Dg U M) ts).length:=by unfold knL; rw [List.length_map]
 walk_at "pr"
 refine ⟨w,rfl,hw,?_⟩
 walk_at "pr"
 refine ⟨U,M,J,ts,rfl,hl,?_⟩
 rw [show (List.map (fun w=>PV.str (knW U M w)) (grp (Dg U M) ts)) = (knL U M ts).map .str by unfold knL; rw [List.map_map]; rfl]
 generalize knL U M ts = kn at kl q
 walk_at "pr"
 refine ⟨kn,0,w,rfl,by omega,by omega,hw,hw2,?_⟩
 walk_at "pr"
 refine ⟨fun m ρ=>∃ (rs:List (Nat × Nat)) (a f:Nat) (v5:Sl),ρ = [.bo (.bk U M J),.bo (.lst (List.map PV.int ts)),.bo (.int w),.sh (.lst (kn.map .str)),.ow (.lst ((rs ++ [(a,reF kn a w)]).map nn2)),v5]/\m = kn.length - reF kn a w/\a <= kn.length/\rs.length <= a/\kn.length - reF kn a w <= f/\rs ++ [(a,reF kn a w)] ++ (if reF kn a w < kn.length then rwF kn w f (reF kn a w) else []) = rwF kn w 301 0,⟨kn.length - reF kn 0 w,[],0,300,_,rfl,rfl,by omega,by simp,by omega,rfl⟩,?_⟩
 rintro m ρ ⟨rs,a,f,v5,rfl,rfl,ha,hr,hf,he⟩
 obtain ⟨o1,o2,o3,o4⟩:=Sn (kn:=kn) ha hw
 have hat:atI ((rs ++ [(a,reF kn a w)]).map nn2) (-1) = some (nn2 (a,reF kn a w)):=by
  rw [List.map_append]; exact Gk _ _
 walk_at "pr"
 refine Ym hat ?_
 walk_at "pr"
 rw [List.length_map]
 by_cases h:reF kn a w < kn.length
 ·rw [decide_eq_true (by omega)]
  rw [if_pos h] at he
  obtain ⟨f',rfl⟩:∃ f',f = f' + 1:=⟨f - 1,by omega⟩
  rw [rwF] at he
  obtain ⟨p1,p2,p3,p4⟩:=Sn (kn:=kn) (a:=reF kn a w) o2 hw
  have ho:=o4 (by omega)
  walk_at "pr"
  refine Ym hat ?_
  walk_at "pr"
  refine ⟨kn,reF kn a w,w,rfl,o2,by omega,hw,hw2,?_⟩
  walk_at "pr"
  rotate_left
  ·rw [List.length_map,List.length_append]; show rs.length + 1 < _; omega
  have hp:=p4 h
  refine ⟨kn.length - reF kn (reF kn a w) w,by omega,rs ++ [(a,reF kn a w)],reF kn a w,f',_,by rw [List.map_append (l₁:=rs ++ [(a,reF kn a w)])]; rfl,rfl,o2,by rw [List.length_append]; show rs.length + 1 <= _; omega,by omega,?_⟩
  rw [List.append_assoc (rs ++ [(a,reF kn a w)])]
  exact he
 ·rw [decide_eq_false (by omega)]
  rw [if_neg h,List.append_nil] at he
  walk_at "pr"
  rw [he]
  exact q
def AeQ:PSp:=fun ps P=>∃ n:Int,ps = [.int n]/\P (.bl true)
theorem AdM (T:Txt K mg t):Binds K t.d_qba ["_law_found"] []:=T.F_qba.binds (ps:=["_law_found"]) fun _ _ _ _ _ _ us hl=>match us,hl with | [_],_=>rfl
theorem AbE (T:Txt K mg t):FnOk P w K mg base CX0 1 t.f_qba t.d_qba ["_law_found"] (spOf K t.C_Book [false] .sh AeQ):=by
 refine T.F_qba.ok Age (fun vs H Q E h=>h.len) (fun cdv A outer s H vs Q E hr h=>?_)
 have hu:=Co hr
 have hu64:=hr.units
 refine ⟨_,(Bp (Cb (Ld (Cq (Gf K) rfl T.z_isinstance PyProof.Rows.boot_isinstance (Ba (pv 0) (Ba (Fw (v:=.ty "int") rfl T.z_int PyProof.Rows.boot_int rfl) Bb))) (Lx (Abj (Cq (Gf K) rfl T.z_isinstance PyProof.Rows.boot_isinstance (Ba (pv 0) (Ba (Fw (v:=.ty "bool") rfl T.z_bool PyProof.Rows.boot_bool rfl) Bb)))))))),?_⟩
 try dsimp only [Cf,Bx]
 refine Cy h (by decide) (Dj (Aeq (EU.eb (Sx Bd)) (Ael (EU.eb (Sx Bd))))) (fun ps P hp=>?_)
 clear h hu hu64 hr
 obtain ⟨n,rfl,q⟩:=hp
 simp only [Dh,List.zipWith_cons_cons,List.zipWith_nil_left,List.zipWith_nil_right,List.length_cons,List.length_nil,Nat.zero_add,Nat.reduceAdd,Nat.reduceSub,List.replicate_succ,List.replicate_zero,Bool.false_eq_true,if_false,if_true,List.cons_append,List.nil_append,Fo]
 walk_at "pr"
 trace_state
 exact q
theorem Aid (T:Txt K mg t):Binds K t.d_qbk ["_law_kinds_here","_law_start","_law_width"] []:=T.F_qbk.binds (ps:=["_law_kinds_here","_law_start","_law_width"]) fun _ _ _ _ _ _ us hl=>match us,hl with | [_,_,_],_=>rfl
theorem Agt (T:Txt K mg t):FnOk P w K mg base CX0 1 t.f_qbk t.d_qbk ["_law_kinds_here","_law_start","_law_width"] (spOf K t.C_Book [false,false,false] .sh Wa):=by
 refine T.F_qbk.ok sc_qbk (fun vs H Q E h=>h.len) (fun cdv A outer s H vs Q E hr h=>?_)
 have hu:=Co hr
 have hu64:=hr.units
 refine ⟨_,(Bg (Dp (Ck AdU (Cc Qu (Cq (Db K) rfl T.z_len PySem.boot_len (Ba (pv 0) Bb)) (pv 1)) (pv 2) (Ci _))
    (Bp (Cb (Cq (Db K) rfl T.z_len PySem.boot_len (Ba (pv 0) Bb))))
    Cz)
   (Bg (Vv 1 [0] ["_law_k","_law_kinds_here"] ["_law_kinds_here"] rfl (Ub rfl T.z_range (Ba (pv 1) (Ba (Cc Dz (pv 1) (pv 2)) Bb))) rfl (fun j y e1 i e2=>match j,e1,e2 with | 0,e1,e2=>by cases e1; cases e2; exact ⟨rfl,rfl,rfl,by decide +kernel⟩ | _ + 1,_,e2=>by simp at e2) (List.forall_mem_cons.mpr ⟨rfl,fun _ h=>nomatch h⟩) (by decide +kernel) (fun _ _ _ _=>(Cd (i:=0) (show List.Nodup (["_law_k","_law_kinds_here"]:List Str) by decide +kernel) rfl (Or.inl rfl))) (fun _ _ _ _=>(Wx (Ck Ga (Cp (Cw K) (pv 1) (pv 0) (fun _ _=>rfl)) Bv (Ci _)))) (fun _ _ _ _=>(pv 0)) rfl (by decide +kernel) rfl (by decide +kernel) (fun _=>rfl) (i:=3) sc_qbk.nd rfl (Or.inl rfl) rfl)
   (Bg (Dp (Ck (Qz K hu64) (pv 3) (Cj Bb) (Ci _))
    (Bp (Cb (Cc Dz (pv 1) (pv 2))))
    Cz)
   (Bp (Cb (Cc Dz (Cp (Cw K) (pv 3) (Sj Qq Be) (fun _ _=>rfl)) Be)))))),?_⟩
 try dsimp only [Cf,Bx]
 refine Cy h (by decide) (Bw (Fs (Dw (EU.eb (Da (fun _ _ _=>.bl _) (EU.eb (Da (fun _ _ _=>.int _) (EU.eb (Gi (Bu Bd Bk))) Bd)) Bd)))
    (Dj (Gi (Bu Bd Bk)))
    Ds)
   (Bw (Cr (EF.eu (Tw (Bu Bd (Bu (EU.eb (Da (fun _ _ _=>.int _) Bd Bd)) Bk)) (Dx (top:=1)) (Dw (EU.eb (Re (EU.eb (Do Bd Bd)) (EU.eb Ca)))) Lf)))
   (Bw (Fs (Dw (EU.eb (Le Bd (EF.eb (Cv 0 Bk)))))
    (Dj (Da (fun _ _ _=>.int _) Bd Bd))
    Ds)
   (Dj (Da (fun _ _ _=>.int _) (EU.eb (Do Bd (EU.eb (AcB (fun _ _=>.int _) (EU.eb Bf))))) (EU.eb Bf)))))) (fun ps P hp=>?_)
 clear h hu hu64 hr
 obtain ⟨kn,a,w,rfl,ha,hk,hw,hw2,q⟩:=hp
 simp only [Dh,List.zipWith_cons_cons,List.zipWith_nil_left,List.zipWith_nil_right,List.length_cons,List.length_nil,Nat.zero_add,Nat.reduceAdd,Nat.reduceSub,List.replicate_succ,List.replicate_zero,Bool.false_eq_true,if_false,if_true,List.cons_append,List.nil_append,Fo]
 unfold reF at q
 walk_at "pr"
 by_cases h:kn.length - a <= w
 ·rw [decide_eq_true (by rw [List.length_map]; omega)]
  rw [if_pos h] at q
  walk_at "pr"
  rw [List.length_map]
  exact q
 rw [decide_eq_false (by rw [List.length_map]; omega)]
 rw [if_neg h] at q
 walk_at "pr"
 refine Ul (f:=fun k=>if kn[a + k]? = some ("blank" : Str) then some (.int ((a:Int) + k)) else none) (by omega) (by omega) ?_ (fun k hk2 Z hZ=>?_)
 rotate_left
 ·have hi:a + k < kn.length:=by omega
  walk_at "cp"
  walk_at "pr"
  refine Gh (l:=kn) (f:=PV.str) (j:=a + k) (a:=kn[a + k]) (List.getElem?_eq_getElem hi) (by omega) ?_
  walk_at "pr"
  rw [List.getElem?_eq_getElem hi] at hZ
  by_cases hb:kn[a + k] = "blank"
  ·rw [decide_eq_true hb]
   rw [if_pos (by rw [hb])] at hZ
   walk_at "pr"
   exact hZ
  ·rw [decide_eq_false hb]
   rw [if_neg (fun z=>hb (Option.some.inj z))] at hZ
   walk_at "pr"
   exact hZ
 have eF:(List.range w).filterMap (fun k=>if kn[a + k]? = some ("blank" : Str) then some (PV.int ((a:Int) + k)) else none) = ((blI kn a w).map fun k:Nat=>(a:Int) + (k:Int)).map PV.int:=by
  unfold blI
  rw [List.map_map]
  generalize List.range w = l
  induction l with
  | nil=>rfl
  | cons x r ih =>
   by_cases z:kn[a + x]? = some ("blank" : Str)
   ·rw [List.filterMap_cons_some (by rw [if_pos z]),List.filter_cons_of_pos (by simp [z]),List.map_cons,ih]; rfl
   ·rw [List.filterMap_cons_none (by rw [if_neg z]),List.filter_cons_of_neg (by simp [z]),ih]
 rw [eF]
 walk_at "pr"
 refine Ag6 (xs:=(blI kn a w).map fun k:Nat=>(a:Int) + (k:Int)) (ys:=[]) ?_
 walk_at "pr"
 by_cases h0:blI kn a w = []
 ·rw [decide_eq_true (by rw [h0]; rfl)]
  rw [h0] at q
  walk_at "pr"
  rw [show (a:Int) + (w:Int) = ((a + w:Nat):Int) by omega]
  exact q
 ·rw [decide_eq_false (fun z=>h0 (List.map_eq_nil_iff.mp z))]
  obtain ⟨i,z,e⟩:∃ i z,blI kn a w = i ++ [z]:=⟨_,_,(List.dropLast_concat_getLast h0).symm⟩
  rw [e,List.getLast?_concat] at q
  walk_at "pr"
  refine Ym (x:=.int ((a:Int) + (z:Int))) (by rw [e,List.map_append,List.map_append]; exact Gk _ _) ?_
  walk_at "pr"
  rw [show (a:Int) + (z:Int) + 1 = ((a + z + 1:Nat):Int) by omega]
  exact q
theorem AiY (T:Txt K mg t):Binds K t.d_qbn ["_law_script"] []:=T.F_qbn.binds (ps:=["_law_script"]) fun _ _ _ _ _ _ us hl=>match us,hl with | [_],_=>rfl
theorem Afm (T:Txt K mg t):FnOk P w K mg base CX0 8 t.f_qbn t.d_qbn ["_law_script"] (spOf K t.C_Book [false] .sh Xy):=by
 refine T.F_qbn.ok sc_qbn (fun vs H Q E h=>h.len) (fun cdv A outer s H vs Q E hr h=>?_)
 have hu:=Co hr
 have hu64:=hr.units
 refine ⟨_,(Bg (Bz (i:=1) sc_qbn.nd rfl (Or.inl rfl) (Bm (AfY T) (hr.mono (by decide)) rfl T.m_qbf T.F_qbf.kp (AhK T) .nil Bt (Ba (pv 0) Bb)))
   (Bg (Bz (i:=2) sc_qbn.nd rfl (Or.inl rfl) (Bm (AfA T) (hr.mono (by decide)) rfl T.m_qbh T.F_qbh.kp (Ah2 T) .nil Bt (Ba (pv 0) (Ba Be (Ba Be Bb)))))
   (Bg (Bz (i:=3) sc_qbn.nd rfl (Or.inl rfl) (Bm (Ahy T) (hr.mono (by decide)) rfl T.m_qy T.F_qy.kp (AiB T) .nil Bt (Ba (Bm (Abd T) (hr.mono (by decide)) rfl T.m_qbi T.F_qbi.kp (Ad9 T) .nil Bt (Ba (pv 0) Bb)) (Ba (pv 2) Bb))))
   (Bg (Bz (i:=4) sc_qbn.nd rfl (Or.inl rfl) (Bm (Lp T) (hr.mono (by decide)) rfl T.m_qi T.F_qi.kp (Qb T) .nil Bt (Ba (pv 0) (Ba Be Bb))))
   (Bg (Bz (i:=5) sc_qbn.nd rfl (Or.inl rfl) (Cc Dz Be (Cc Dy (Cc Nd (pv 4) Be) (Cp (Cw K) (Cj (Ba Be (Ba Be (Ba Be Bb)))) (Cc Dy (Cc Nd (pv 4) Be) Be) (fun _ _=>rfl)))))
   (Bg (Bz (i:=6) sc_qbn.nd rfl (Or.inl rfl) (Qh (Oy K) rfl T.z_list PyProof.Rows.boot_list (Ba (pv 2) Bb)))
   (Bg (Bz (i:=7) sc_qbn.nd rfl (Or.inl rfl) (Bm (AaD T) (hr.mono (by decide)) rfl T.m_qbd T.F_qbd.kp (AdD T) .nil Bt (Ba (pv 1) (Ba (pv 6) (Ba (pv 5) Bb)))))
   (Bg (Dp (PW.pt (Gc (Jx (Lc (Cq (Gf K) rfl T.z_isinstance PyProof.Rows.boot_isinstance (Ba (pv 7) (Ba (Fw (v:=.ty "list") rfl T.z_list PyProof.Rows.boot_list rfl) Bb))))) (Gc (Ck (Qz K hu64) (pv 7) (Cj Bb) (Ci _)) (Lb (Ck (Td K hu64) (pv 6) (pv 2) (Ci _))))))
    (Bp (Cb Rc))
    Cz)
   (Bg (Bz (i:=8) sc_qbn.nd rfl (Or.inl rfl) Be)
   (Bg (Dn PassesOwn.never rfl (Dr (pv 7)) (Cd (i:=9) sc_qbn.nd rfl (Or.inl rfl))
    (Bg (Dp (PW.pt (Gc (Jx (Lc (Cq (Gf K) rfl T.z_isinstance PyProof.Rows.boot_isinstance (Ba (pv 9) (Ba (Fw (v:=.ty "tuple") rfl T.z_tuple PyProof.Rows.boot_tuple rfl) Bb))))) (Gc (Ck Rk (Cq (Db K) rfl T.z_len PySem.boot_len (Ba (pv 9) Bb)) Be (Ci _)) (Gc (Jx (Lc (Bm (AbE T) (hr.mono (by decide)) rfl T.m_qba T.F_qba.kp (AdM T) .nil Bt (Ba (Cp (Dt K) (pv 9) Be (fun _ _=>rfl)) Bb)))) (Lb (Jx (Lc (Bm (AbE T) (hr.mono (by decide)) rfl T.m_qba T.F_qba.kp (AdM T) .nil Bt (Ba (Cp (Dt K) (pv 9) Be (fun _ _=>rfl)) Bb)))))))))
    (Bp (Cb Rc))
    Cz)
   (Bg (Dp (PW.pt (Gc (Ck Rk (Cp (Dt K) (pv 9) Be (fun _ _=>rfl)) (pv 8) (Ci _)) (Gc (Ck Ahs (Cc Qu (Cp (Dt K) (pv 9) Be (fun _ _=>rfl)) (pv 8)) (pv 5) (Ci _)) (Lb (Ck Rk (Cp (Dt K) (pv 9) Be (fun _ _=>rfl)) (Bm (Agt T) (hr.mono (by decide)) rfl T.m_qbk T.F_qbk.kp (Aid T) .nil Bt (Ba (pv 3) (Ba (pv 8) (Ba (pv 5) Bb)))) (Ci _))))))
    (Bp (Cb Rc))
    Cz)
   (Bg (Dp (PW.pt (AbN (Ck Ga (Cp (Dt K) (pv 9) Be (fun _ _=>rfl)) (pv 8) (Ci _)) (Xk (Ck (Td K hu64) (pv 3) (Cj Bb) (Ci _)))))
    (Bp (Cb Rc))
    Cz)
   (Bp (Bz (i:=8) sc_qbn.nd rfl (Or.inl rfl) (Cp (Dt K) (pv 9) Be (fun _ _=>rfl))))))))
   (Bg (Dp (PW.pt (Gc (Ck Rk (pv 8) (Cq (Db K) rfl T.z_len PySem.boot_len (Ba (pv 3) Bb)) (Ci _)) (Lb (PW.pt (AbN (Ck (Qz K hu64) (pv 3) (Cj Bb) (Ci _)) (Xk (Ck (Td K hu64) (pv 7) (Cj (Ba (Di (Ba Be (Ba Be Bb))) Bb)) (Ci _))))))))
    (Bp (Cb Rc))
    Cz)
   (Bg (Bz (i:=10) sc_qbn.nd rfl (Or.inl rfl) (Qh (Oy K) rfl T.z_list PyProof.Rows.boot_list (Ba (pv 7) Bb)))
   (Bg (Ce (Afn PySem.F.plainAttrs_list PySem.F.slot_list_clear PySem.F.type_list_clear Aa8 (pv 7)))
   (Bg (Ce (Jc PySem.F.plainAttrs_list PySem.F.slot_list_append PySem.F.type_list_append Dq (pv 6) (Ba (Bm (Fx T) (hr.mono (by decide)) rfl T.m_qbg T.F_qbg.kp (Gu T) .nil Bt (Ba (pv 0) (Ba Be Bb))) Bb)))
   (Bp (Cb (Fm (Qz K hu64) (Bm (AaD T) (hr.mono (by decide)) rfl T.m_qbd T.F_qbd.kp (AdD T) .nil Bt (Ba (pv 1) (Ba (pv 2) (Ba (pv 5) Bb)))) (pv 10) (Ci _)))))))))))))))))),?_⟩
 try dsimp only [Cf,Bx]
 refine Cy h (by decide) (Bw (Cr (Cl (Bu Bd Bk)))
   (Bw (Cr (EF.eu (Fu (Bu Bd (Bu (EU.eb Bf) (Bu (EU.eb Bf) Bk))))))
   (Bw (Cr (EF.eu (Fu (Bu (EF.eb (Fu (Bu Bd Bk))) (Bu Bd Bk)))))
   (Bw (Cr (Cl (Bu Bd (Bu (EU.eb Bf) Bk))))
   (Bw (Cr (Da (fun _ _ _=>.int _) (EU.eb Bf) (EU.eb (Dl (fun _ _ _=>.int _) (EU.eb (Dl (fun _ _ _=>.int _) Bd (EU.eb Bf))) (EU.eb (Do (EF.eb (Cv 3 (Bn Bf (Bn Bf (Bn Bf Bk))))) (EU.eb (Dl (fun _ _ _=>.int _) (EU.eb (Dl (fun _ _ _=>.int _) Bd (EU.eb Bf))) (EU.eb Bf)))))))))
   (Bw (Fr (Yb (Bu Bd Bk)))
   (Bw (Fr (Fu (Bu Bd (Bu Bd (Bu Bd Bk)))))
   (Bw (Fs (Jm (Qr (Nb (EU.eb (Sx Bd)))) (Jm (Dw (EU.eb (Le Bd (EF.eb (Cv 0 Bk))))) (Dw (EU.eb (Le Bd Bd)))))
    (Dj Sw)
    Ds)
   (Bw (Cr Bf)
   (Bw (AfG (i:=7) (Aeu (Dx (top:=11))
    (Bw (Fs (Jm (Qr (Nb (EU.eb (Sx Bd)))) (Jm (Dw (EU.eb (Ut (EU.eb (Gi (Bu Bd Bk))) (EU.eb Bf)))) (Jm (Qr (Nb (EU.eb (Cl (Bu (EU.eb (Fe Bd (EU.eb Bf))) Bk))))) (Qr (Nb (EU.eb (Cl (Bu (EU.eb (Fe Bd (EU.eb Bf))) Bk))))))))
    (Dj Sw)
    Ds)
   (Bw (Fs (Jm (Dw (EU.eb (Ut (EU.eb (Fe Bd (EU.eb Bf))) Bd))) (Jm (Dw (EU.eb (Da (fun _ _ _=>.bl _) (EU.eb (Da (fun _ _ _=>.int _) (EU.eb (Fe Bd (EU.eb Bf))) Bd)) Bd))) (Dw (EU.eb (Ut (EU.eb (Fe Bd (EU.eb Bf))) (EU.eb (Cl (Bu Bd (Bu Bd (Bu Bd Bk))))))))))
    (Dj Sw)
    Ds)
   (Bw (Fs (Aa7 (Dw (EU.eb (Re (EU.eb (Fe Bd (EU.eb Bf))) Bd))) (Dw (EU.eb (Le Bd (EF.eb (Cv 0 Bk))))))
    (Dj Sw)
    Ds)
   (Cr (Fe Bd (EU.eb Bf))))))))
   (Bw (Fs (Jm (Dw (EU.eb (Ut Bd (EU.eb (Gi (Bu Bd Bk)))))) (Aa7 (Dw (EU.eb (Le Bd (EF.eb (Cv 0 Bk))))) (Dw (EU.eb (Le Bd (EF.eb (Cv 1 (Bn (Du 2 (Bn Bf (Bn Bf Bk))) Bk))))))))
    (Dj Sw)
    Ds)
   (Bw (Cr (EF.eu (Yb (Bu Bd Bk))))
   (Bw Ack
   (Bw (Qg (Bn (Cl (Bu Bd (Bu (EU.eb Bf) Bk))) Bk))
   (Dj (Le (EF.eb (Fu (Bu Bd (Bu Bd (Bu Bd Bk))))) Bd)))))))))))))))) (fun ps P hp=>?_)
 clear h hu hu64 hr
 obtain ⟨ns,rfl,hlen,q⟩:=hp
 simp only [Dh,List.zipWith_cons_cons,List.zipWith_nil_left,List.zipWith_nil_right,List.length_cons,List.length_nil,Nat.zero_add,Nat.reduceAdd,Nat.reduceSub,List.replicate_succ,List.replicate_zero,Bool.false_eq_true,if_false,if_true,List.cons_append,List.nil_append,Fo]
 walk_at "pr"
 refine ⟨ns,rfl,hlen,?_⟩
 walk_at "pr"
 refine ⟨ns,4,100,rfl,hlen,fun ks hks hkl=>?_⟩
 walk_at "pr"
 refine ⟨ns,rfl,hlen,?_⟩
 walk_at "pr"
 refine ⟨ns,ks,rfl,hks,by omega,?_⟩
 have gl:=(Gd (mkG ns) (ks.map (sgF ns))).ln
 rw [List.length_map] at gl
 rw [show (List.map (fun w=>PV.str (knW (usL ns 28) (mtL ns) w)) (grp (mkG ns) (ks.map (sgF ns)))) = (knL (usL ns 28) (mtL ns) (ks.map (sgF ns))).map .str by unfold knL; rw [List.map_map]; rfl]
 have kl:(knL (usL ns 28) (mtL ns) (ks.map (sgF ns))).length <= 63:=by unfold knL; rw [List.length_map]; show (grp (mkG ns) _).length <= _; omega
 rw [show (List.map (fun k=>PV.int (sgF ns k)) ks) = (ks.map (sgF ns)).map .int by rw [List.map_map]; rfl]
 have tl:(ks.map (sgF ns)).length <= 63:=by rw [List.length_map]; exact hkl
 generalize ks.map (sgF ns) = ts at kl tl
 clear gl
 generalize ek:knL (usL ns 28) (mtL ns) ts = kn at kl
 walk_at "pr"
 refine ⟨ns,3,rfl,hlen,?_⟩
 walk_at "pr"
 all_goals try (first | decide | exact ⟨by decide,by decide⟩)
 have h1:=Int.emod_nonneg (cM ns 3 / 420) (show (3:Int) ≠ 0 by decide)
 have h2:=Int.emod_lt_of_pos (cM ns 3 / 420) (show (0:Int) < 3 by decide)
 obtain ⟨md,hmd,hm1,hm2⟩:∃ md:Int,([12,12,200]:List Int)[(cM ns 3 / 420 % 3).toNat]? = some md/\0 < md/\md <= 200:=by
  have hj:(cM ns 3 / 420 % 3).toNat < ([12,12,200]:List Int).length:=by show _ < 3; omega
  refine ⟨_,List.getElem?_eq_getElem hj,?_⟩
  have:∀ x ∈ ([12,12,200]:List Int),0 < x/\x <= 200:=by decide
  exact this _ (List.getElem_mem hj)
 refine Gh (l:=([12,12,200]:List Int)) (f:=PV.int) (j:=(cM ns 3 / 420 % 3).toNat) (a:=md) hmd (by omega) ?_
 walk_at "pr"
 rotate_left
 ·exact hm1
 obtain ⟨w,hw⟩:=Int.eq_ofNat_of_zero_le (show 0 <= 1 + cM ns 3 / 21 % md by have:=Int.emod_nonneg (cM ns 3 / 21) (show md ≠ 0 by omega); omega)
 have hw1:1 <= w:=by have:=Int.emod_nonneg (cM ns 3 / 21) (show md ≠ 0 by omega); omega
 have hw2:w <= 200:=by have:=Int.emod_lt_of_pos (cM ns 3 / 21) hm1; omega
 rw [hw]
 walk_at "pr"
 refine ⟨_,_,_,ts,w,rfl,by omega,hw1,by omega,?_⟩
 rw [ek]
 have hR:=RwI.zero (kn:=kn) (w:=w) (by omega)
 have hne:=AgN kn w 300 0
 have hnil:=Aee (kn:=kn) (w:=w) (n:=300)
 rw [show 300 + 1 = 301 from rfl] at hne hnil
 generalize eR:rwF kn w 301 0 = R at hR hne hnil
 walk_at "pr"
 refine Ti (rs:=R) (ss:=[]) ?_
 rw [decide_eq_false hne]
 walk_at "pr"
 refine Agx (xs:=ts) (ys:=ts) ?_
 rw [decide_eq_true rfl]
 walk_at "pr"
 refine Aho rfl (fun z=>?_)
 refine AfL rfl ⟨fun k ρ=>∃ (a:Nat) (v9:Sl),ρ = [.bo (.scr ns),.sh (.bk (usL ns 28) (mtL ns) (jnL ns)),.sh (.lst (ts.map .int)),.sh (.lst (kn.map .str)),.sh (.int (cM ns 3)),.sh (.int w),.ow (.lst (ts.map .int)),.fl z (R.map nn2),.sh (.int a),v9,.un]/\RwI kn w R k a,⟨0,_,rfl,hR⟩,?_,?_,?_⟩
 ·rintro k ρ ⟨a,v9,rfl,_⟩; rfl
 ·rintro k p ρ hk ⟨a,v9,rfl,hI⟩
  rw [List.getElem?_map] at hk
  obtain ⟨p,hp,rfl⟩:=Option.map_eq_some_iff.mp hk
  obtain ⟨rfl,hz,hI2⟩:=hI.step hw1 hp
  obtain ⟨o1,o2,o3,o4⟩:=Sn (kn:=kn) hI.1 hw1
  walk_at "pr"
  rw [decide_eq_true (show ((([PV.int (a:Int),PV.int (reF kn a w:Int)]:List PV).length:Nat):Int) = 2 from rfl)]
  walk_at "pr"
  refine ⟨_,rfl,?_⟩
  walk_at "pr"
  refine ⟨_,rfl,?_⟩
  walk_at "pr"
  rw [decide_eq_true rfl]
  walk_at "pr"
  rw [decide_eq_false (by omega)]
  walk_at "pr"
  refine ⟨kn,a,w,rfl,hI.1,by omega,hw1,by omega,?_⟩
  walk_at "pr"
  rw [decide_eq_true rfl]
  walk_at "pr"
  by_cases hq:reF kn a w = a
  ·rw [decide_eq_true (by omega)]
   walk_at "pr"
   refine Aev (xs:=kn) (ys:=[]) ?_
   rw [decide_eq_true (List.eq_nil_of_length_eq_zero (hz hq))]
   walk_at "pr"
   exact ⟨reF kn a w,_,rfl,hI2⟩
  ·rw [decide_eq_false (by omega)]
   walk_at "pr"
   exact ⟨reF kn a w,_,rfl,hI2⟩
 ·rintro ρ ⟨a,v9,rfl,hI⟩
  rw [List.length_map] at hI
  have ha:=hI.fin
  refine ⟨rfl,?_⟩
  walk_at "pr"
  rw [decide_eq_true (show (a:Int) = (((kn.map PV.str).length:Nat):Int) by rw [List.length_map,ha])]
  walk_at "pr"
  refine AeP (xs:=kn) (ys:=[]) ?_
  by_cases hk0:kn = []
  ·rw [decide_eq_true hk0]
   walk_at "pr"
   refine Afb (rs:=R) (ss:=[(0,0)]) ?_
   rw [decide_eq_true (hnil hk0)]
   walk_at "pr"
   refine ⟨ns,0,rfl,hlen,by decide,?_⟩
   walk_at "pr"
   rotate_left
   ·rw [List.length_map]; omega
   refine ⟨_,_,_,ts,w,rfl,by omega,hw1,by omega,?_⟩
   rw [ek,eR]
   walk_at "pr"
   refine Ti (rs:=R) (ss:=R) ?_
   rw [decide_eq_true rfl]
   exact q
  ·rw [decide_eq_false hk0]
   walk_at "pr"
   refine ⟨ns,0,rfl,hlen,by decide,?_⟩
   walk_at "pr"
   rotate_left
   ·rw [List.length_map]; omega
   refine ⟨_,_,_,ts,w,rfl,by omega,hw1,by omega,?_⟩
   rw [ek,eR]
   walk_at "pr"
   refine Ti (rs:=R) (ss:=R) ?_
   rw [decide_eq_true rfl]
   exact q
end
def _root_.PySem.W.Fast.tw10291653796785735709:Nat:=0
def _root_.PySem.W.Fast.tw10602620882508401002:Nat:=0
def _root_.PySem.W.Fast.tw10866640664841134523:Nat:=0
def _root_.PySem.W.Fast.tw11219286168736441400:Nat:=0
def _root_.PySem.W.Fast.tw11443575111269727396:Nat:=0
def _root_.PySem.W.Fast.tw12033231727953564152:Nat:=0
def _root_.PySem.W.Fast.tw13658504467947430028:Nat:=0
def _root_.PySem.W.Fast.tw15350648464782619455:Nat:=0
def _root_.PySem.W.Fast.tw15781393327810978916:Nat:=0
def _root_.PySem.W.Fast.tw16217731185884151697:Nat:=0
def _root_.PySem.W.Fast.tw16684636412452653658:Nat:=0
def _root_.PySem.W.Fast.tw1686915676925463144:Nat:=0
def _root_.PySem.W.Fast.tw2369846658790471843:Nat:=0
def _root_.PySem.W.Fast.tw3278550985065752376:Nat:=0
def _root_.PySem.W.Fast.tw4528223440375780366:Nat:=0
def _root_.PySem.W.Fast.tw5023876394727053153:Nat:=0
def _root_.PySem.W.Fast.tw6455541721138515872:Nat:=0
def _root_.PySem.W.Fast.tw6777713234849288052:Nat:=0
def _root_.PySem.W.Fast.tw7133349512874660496:Nat:=0
def _root_.PySem.W.Fast.tw7990425980146639200:Nat:=0
def _root_.PySem.W.Fast.tw8435078544228202477:Nat:=0
def _root_.PySem.W.Fast.tw8795505356285997357:Nat:=0
theorem all_mk {l:PySem.W.OpenLaw} {w:World} {K:PySem.W.Frag} {h:Heap} {mg:Str->Option Value} {fa:Addr} (X:K.In h) (G:h.Ns mainGlobals mg) (hfa:mg "law" = some (.ref fa)) {f_qi f_qbg f_qbi f_qc f_qd f_qa f_qbj f_qbc f_qf f_qm f_qo f_qr f_qw f_qn f_ql f_qe f_qq f_qj f_qs f_qz f_qx f_qbf f_qbh f_qp f_qy f_qh f_qt f_qb f_qbb f_qbe f_qbl f_qbd f_qba f_qbk f_qbn C_Book a_JOINED_KINDS a_TOLD_KINDS:Addr} {od_JOINED_KINDS:Option Addr} {its_JOINED_KINDS:Array Value} {n_JOINED_KINDS:Nat} {sl_JOINED_KINDS:Array (Option Value)} {u_MOST_GOINGS:Value} {od_TOLD_KINDS:Option Addr} {its_TOLD_KINDS:Array Value} {n_TOLD_KINDS:Nat} {sl_TOLD_KINDS:Array (Option Value)} {od_qi an_qi od_qbg an_qbg od_qbi an_qbi od_qc an_qc od_qd an_qd od_qa an_qa od_qbj an_qbj od_qbc an_qbc od_qf an_qf od_qm an_qm od_qo an_qo od_qr an_qr od_qw an_qw od_qn an_qn od_ql an_ql od_qe an_qe od_qq an_qq od_qj an_qj od_qs an_qs od_qz an_qz od_qx an_qx od_qbf an_qbf od_qbh an_qbh od_qp an_qp od_qy an_qy od_qh an_qh od_qt an_qt od_qb an_qb od_qbb an_qbb od_qbe an_qbe od_qbl an_qbl od_qbd an_qbd od_qba an_qba od_qbk an_qbk od_qbn an_qbn:Option Addr} {sl_qi sl_qbg sl_qbi sl_qc sl_qd sl_qa sl_qbj sl_qbc sl_qf sl_qm sl_qo sl_qr sl_qw sl_qn sl_ql sl_qe sl_qq sl_qj sl_qs sl_qz sl_qx sl_qbf sl_qbh sl_qp sl_qy sl_qh sl_qt sl_qb sl_qbb sl_qbe sl_qbl sl_qbd sl_qba sl_qbk sl_qbn:Array (Option Value)} {oc_qi kV_qi dc_qi pm_qi cd_qi ct_qi oc_qbg kV_qbg dc_qbg pm_qbg cd_qbg ct_qbg oc_qbi kV_qbi dc_qbi pm_qbi cd_qbi ct_qbi oc_qc kV_qc dc_qc pm_qc cd_qc ct_qc oc_qd kV_qd dc_qd pm_qd cd_qd ct_qd oc_qa kV_qa dc_qa pm_qa cd_qa ct_qa oc_qbj kV_qbj dc_qbj pm_qbj cd_qbj ct_qbj oc_qbc kV_qbc dc_qbc pm_qbc cd_qbc ct_qbc oc_qf kV_qf dc_qf pm_qf cd_qf ct_qf oc_qm kV_qm dc_qm pm_qm cd_qm ct_qm oc_qo kV_qo dc_qo pm_qo cd_qo ct_qo oc_qr kV_qr dc_qr pm_qr cd_qr ct_qr oc_qw kV_qw dc_qw pm_qw cd_qw ct_qw oc_qn kV_qn dc_qn pm_qn cd_qn ct_qn oc_ql kV_ql dc_ql pm_ql cd_ql ct_ql oc_qe kV_qe dc_qe pm_qe cd_qe ct_qe oc_qq kV_qq dc_qq pm_qq cd_qq ct_qq oc_qj kV_qj dc_qj pm_qj cd_qj ct_qj oc_qs kV_qs dc_qs pm_qs cd_qs ct_qs oc_qz kV_qz dc_qz pm_qz cd_qz ct_qz oc_qx kV_qx dc_qx pm_qx cd_qx ct_qx oc_qbf kV_qbf dc_qbf pm_qbf cd_qbf ct_qbf oc_qbh kV_qbh dc_qbh pm_qbh cd_qbh ct_qbh oc_qp kV_qp dc_qp pm_qp cd_qp ct_qp oc_qy kV_qy dc_qy pm_qy cd_qy ct_qy oc_qh kV_qh dc_qh pm_qh cd_qh ct_qh oc_qt kV_qt dc_qt pm_qt cd_qt ct_qt oc_qb kV_qb dc_qb pm_qb cd_qb ct_qb oc_qbb kV_qbb dc_qbb pm_qbb cd_qbb ct_qbb oc_qbe kV_qbe dc_qbe pm_qbe cd_qbe ct_qbe oc_qbl kV_qbl dc_qbl pm_qbl cd_qbl ct_qbl oc_qbd kV_qbd dc_qbd pm_qbd cd_qbd ct_qbd oc_qba kV_qba dc_qba pm_qba cd_qba ct_qba oc_qbk kV_qbk dc_qbk pm_qbk cd_qbk ct_qbk oc_qbn kV_qbn dc_qbn pm_qbn cd_qbn ct_qbn:Value}
  (aC_Book:PySem.W.nsIn K mainGlobals "Book" = some (some (.ref C_Book)))
  (h_qi_a:PySem.W.nsIn K mainGlobals "_law_cell_at" = some (some (.ref f_qi)))
  (h_qi_l:K.lookup f_qi = some ⟨oc_qi,od_qi,.func (PySem.W.fnOf "_law_cell_at" "_law_cell_at" (Bo Oa) (Bl Oa) (Bc Oa) .none kV_qi dc_qi pm_qi an_qi cd_qi ct_qi),sl_qi⟩)
  (h_qi_c:PySem.W.codeIn K cd_qi "_law_cell_at" = true)
  (h_qi_k:PySem.W.keepIn K (.ref f_qi) = true)
  (h_qbg_a:PySem.W.nsIn K mainGlobals "_law_sign" = some (some (.ref f_qbg)))
  (h_qbg_l:K.lookup f_qbg = some ⟨oc_qbg,od_qbg,.func (PySem.W.fnOf "_law_sign" "_law_sign" (Bo Js) (Bl Js) (Bc Js) .none kV_qbg dc_qbg pm_qbg an_qbg cd_qbg ct_qbg),sl_qbg⟩)
  (h_qbg_c:PySem.W.codeIn K cd_qbg "_law_sign" = true)
  (h_qbg_k:PySem.W.keepIn K (.ref f_qbg) = true)
  (h_qbi_a:PySem.W.nsIn K mainGlobals "_law_told" = some (some (.ref f_qbi)))
  (h_qbi_l:K.lookup f_qbi = some ⟨oc_qbi,od_qbi,.func (PySem.W.fnOf "_law_told" "_law_told" (Bo Jp) (Bl Jp) (Bc Jp) .none kV_qbi dc_qbi pm_qbi an_qbi cd_qbi ct_qbi),sl_qbi⟩)
  (h_qbi_c:PySem.W.codeIn K cd_qbi "_law_told" = true)
  (h_qbi_k:PySem.W.keepIn K (.ref f_qbi) = true)
  (h_qc_a:PySem.W.nsIn K mainGlobals "refuse_unless" = some (some (.ref f_qc)))
  (h_qc_l:K.lookup f_qc = some ⟨oc_qc,od_qc,.func (PySem.W.fnOf "refuse_unless" "refuse_unless" (Bo Oc) (Bl Oc) (Bc Oc) .none kV_qc dc_qc pm_qc an_qc cd_qc ct_qc),sl_qc⟩)
  (h_qc_c:PySem.W.codeIn K cd_qc "refuse_unless" = true)
  (h_qc_k:PySem.W.keepIn K (.ref f_qc) = true)
  (h_qd_a:PySem.W.nsIn K mainGlobals "check_tuples" = some (some (.ref f_qd)))
  (h_qd_l:K.lookup f_qd = some ⟨oc_qd,od_qd,.func (PySem.W.fnOf "check_tuples" "check_tuples" (Bo Ni) (Bl Ni) (Bc Ni) .none kV_qd dc_qd pm_qd an_qd cd_qd ct_qd),sl_qd⟩)
  (h_qd_c:PySem.W.codeIn K cd_qd "check_tuples" = true)
  (h_qd_k:PySem.W.keepIn K (.ref f_qd) = true)
  (h_qa_a:PySem.W.nsIn K mainGlobals "is_whole_number" = some (some (.ref f_qa)))
  (h_qa_l:K.lookup f_qa = some ⟨oc_qa,od_qa,.func (PySem.W.fnOf "is_whole_number" "is_whole_number" (Bo Np) (Bl Np) (Bc Np) .none kV_qa dc_qa pm_qa an_qa cd_qa ct_qa),sl_qa⟩)
  (h_qa_c:PySem.W.codeIn K cd_qa "is_whole_number" = true)
  (h_qa_k:PySem.W.keepIn K (.ref f_qa) = true)
  (h_qbj_a:PySem.W.nsIn K mainGlobals "is_sign" = some (some (.ref f_qbj)))
  (h_qbj_l:K.lookup f_qbj = some ⟨oc_qbj,od_qbj,.func (PySem.W.fnOf "is_sign" "is_sign" (Bo Jo) (Bl Jo) (Bc Jo) .none kV_qbj dc_qbj pm_qbj an_qbj cd_qbj ct_qbj),sl_qbj⟩)
  (h_qbj_c:PySem.W.codeIn K cd_qbj "is_sign" = true)
  (h_qbj_k:PySem.W.keepIn K (.ref f_qbj) = true)
  (h_qbc_a:PySem.W.nsIn K mainGlobals "add_kind" = some (some (.ref f_qbc)))
  (h_qbc_l:K.lookup f_qbc = some ⟨oc_qbc,od_qbc,.func (PySem.W.fnOf "add_kind" "add_kind" (Bo Ji) (Bl Ji) (Bc Ji) .none kV_qbc dc_qbc pm_qbc an_qbc cd_qbc ct_qbc),sl_qbc⟩)
  (h_qbc_c:PySem.W.codeIn K cd_qbc "add_kind" = true)
  (h_qbc_k:PySem.W.keepIn K (.ref f_qbc) = true)
  (h_qf_a:PySem.W.nsIn K mainGlobals "is_told_kind" = some (some (.ref f_qf)))
  (h_qf_l:K.lookup f_qf = some ⟨oc_qf,od_qf,.func (PySem.W.fnOf "is_told_kind" "is_told_kind" (Bo Oj) (Bl Oj) (Bc Oj) .none kV_qf dc_qf pm_qf an_qf cd_qf ct_qf),sl_qf⟩)
  (h_qf_c:PySem.W.codeIn K cd_qf "is_told_kind" = true)
  (h_qf_k:PySem.W.keepIn K (.ref f_qf) = true)
  (h_qm_a:PySem.W.nsIn K mainGlobals "is_rank_of" = some (some (.ref f_qm)))
  (h_qm_l:K.lookup f_qm = some ⟨oc_qm,od_qm,.func (PySem.W.fnOf "is_rank_of" "is_rank_of" (Bo Nx) (Bl Nx) (Bc Nx) .none kV_qm dc_qm pm_qm an_qm cd_qm ct_qm),sl_qm⟩)
  (h_qm_c:PySem.W.codeIn K cd_qm "is_rank_of" = true)
  (h_qm_k:PySem.W.keepIn K (.ref f_qm) = true)
  (h_qo_a:PySem.W.nsIn K mainGlobals "kinds_told" = some (some (.ref f_qo)))
  (h_qo_l:K.lookup f_qo = some ⟨oc_qo,od_qo,.func (PySem.W.fnOf "kinds_told" "kinds_told" (Bo Od) (Bl Od) (Bc Od) .none kV_qo dc_qo pm_qo an_qo cd_qo ct_qo),sl_qo⟩)
  (h_qo_c:PySem.W.codeIn K cd_qo "kinds_told" = true)
  (h_qo_k:PySem.W.keepIn K (.ref f_qo) = true)
  (h_qr_a:PySem.W.nsIn K mainGlobals "ranks_told" = some (some (.ref f_qr)))
  (h_qr_l:K.lookup f_qr = some ⟨oc_qr,od_qr,.func (PySem.W.fnOf "ranks_told" "ranks_told" (Bo Ng) (Bl Ng) (Bc Ng) .none kV_qr dc_qr pm_qr an_qr cd_qr ct_qr),sl_qr⟩)
  (h_qr_c:PySem.W.codeIn K cd_qr "ranks_told" = true)
  (h_qr_k:PySem.W.keepIn K (.ref f_qr) = true)
  (h_qw_a:PySem.W.nsIn K mainGlobals "both_ways" = some (some (.ref f_qw)))
  (h_qw_l:K.lookup f_qw = some ⟨oc_qw,od_qw,.func (PySem.W.fnOf "both_ways" "both_ways" (Bo Nm) (Bl Nm) (Bc Nm) .none kV_qw dc_qw pm_qw an_qw cd_qw ct_qw),sl_qw⟩)
  (h_qw_c:PySem.W.codeIn K cd_qw "both_ways" = true)
  (h_qw_k:PySem.W.keepIn K (.ref f_qw) = true)
  (h_qn_a:PySem.W.nsIn K mainGlobals "kind_among" = some (some (.ref f_qn)))
  (h_qn_l:K.lookup f_qn = some ⟨oc_qn,od_qn,.func (PySem.W.fnOf "kind_among" "kind_among" (Bo Ot) (Bl Ot) (Bc Ot) .none kV_qn dc_qn pm_qn an_qn cd_qn ct_qn),sl_qn⟩)
  (h_qn_c:PySem.W.codeIn K cd_qn "kind_among" = true)
  (h_qn_k:PySem.W.keepIn K (.ref f_qn) = true)
  (h_ql_a:PySem.W.nsIn K mainGlobals "check_join" = some (some (.ref f_ql)))
  (h_ql_l:K.lookup f_ql = some ⟨oc_ql,od_ql,.func (PySem.W.fnOf "check_join" "check_join" (Bo No) (Bl No) (Bc No) .none kV_ql dc_ql pm_ql an_ql cd_ql ct_ql),sl_ql⟩)
  (h_ql_c:PySem.W.codeIn K cd_ql "check_join" = true)
  (h_ql_k:PySem.W.keepIn K (.ref f_ql) = true)
  (h_qe_a:PySem.W.nsIn K mainGlobals "ends_in_time" = some (some (.ref f_qe)))
  (h_qe_l:K.lookup f_qe = some ⟨oc_qe,od_qe,.func (PySem.W.fnOf "ends_in_time" "ends_in_time" (Bo Oe) (Bl Oe) (Bc Oe) .none kV_qe dc_qe pm_qe an_qe cd_qe ct_qe),sl_qe⟩)
  (h_qe_c:PySem.W.codeIn K cd_qe "ends_in_time" = true)
  (h_qe_k:PySem.W.keepIn K (.ref f_qe) = true)
  (h_qq_a:PySem.W.nsIn K mainGlobals "pairs_told" = some (some (.ref f_qq)))
  (h_qq_l:K.lookup f_qq = some ⟨oc_qq,od_qq,.func (PySem.W.fnOf "pairs_told" "pairs_told" (Bo Nk) (Bl Nk) (Bc Nk) .none kV_qq dc_qq pm_qq an_qq cd_qq ct_qq),sl_qq⟩)
  (h_qq_c:PySem.W.codeIn K cd_qq "pairs_told" = true)
  (h_qq_k:PySem.W.keepIn K (.ref f_qq) = true)
  (h_qj_a:PySem.W.nsIn K mainGlobals "wholes_told" = some (some (.ref f_qj)))
  (h_qj_l:K.lookup f_qj = some ⟨oc_qj,od_qj,.func (PySem.W.fnOf "wholes_told" "wholes_told" (Bo Ov) (Bl Ov) (Bc Ov) .none kV_qj dc_qj pm_qj an_qj cd_qj ct_qj),sl_qj⟩)
  (h_qj_c:PySem.W.codeIn K cd_qj "wholes_told" = true)
  (h_qj_k:PySem.W.keepIn K (.ref f_qj) = true)
  (h_qs_a:PySem.W.findIn K (.ref C_Book) "__init__" = some (some (.ref f_qs)))
  (h_qs_i:PySem.W.isFn K (.ref f_qs) = true)
  (h_qs_l:K.lookup f_qs = some ⟨oc_qs,od_qs,.func (PySem.W.fnOf "__init__" "Book.__init__" (Bo On) (Bl On) (Bc On) .none kV_qs dc_qs pm_qs an_qs cd_qs ct_qs),sl_qs⟩)
  (h_qs_c:PySem.W.codeIn K cd_qs "Book.__init__" = true)
  (h_qs_k:PySem.W.keepIn K (.ref f_qs) = true)
  (h_qz_a:PySem.W.nsIn K mainGlobals "_law_mates" = some (some (.ref f_qz)))
  (h_qz_l:K.lookup f_qz = some ⟨oc_qz,od_qz,.func (PySem.W.fnOf "_law_mates" "_law_mates" (Bo Oi) (Bl Oi) (Bc Oi) .none kV_qz dc_qz pm_qz an_qz cd_qz ct_qz),sl_qz⟩)
  (h_qz_c:PySem.W.codeIn K cd_qz "_law_mates" = true)
  (h_qz_k:PySem.W.keepIn K (.ref f_qz) = true)
  (h_qx_a:PySem.W.nsIn K mainGlobals "_law_joins" = some (some (.ref f_qx)))
  (h_qx_l:K.lookup f_qx = some ⟨oc_qx,od_qx,.func (PySem.W.fnOf "_law_joins" "_law_joins" (Bo Nt) (Bl Nt) (Bc Nt) .none kV_qx dc_qx pm_qx an_qx cd_qx ct_qx),sl_qx⟩)
  (h_qx_c:PySem.W.codeIn K cd_qx "_law_joins" = true)
  (h_qx_k:PySem.W.keepIn K (.ref f_qx) = true)
  (h_qbf_a:PySem.W.nsIn K mainGlobals "_law_book" = some (some (.ref f_qbf)))
  (h_qbf_l:K.lookup f_qbf = some ⟨oc_qbf,od_qbf,.func (PySem.W.fnOf "_law_book" "_law_book" (Bo Je) (Bl Je) (Bc Je) .none kV_qbf dc_qbf pm_qbf an_qbf cd_qbf ct_qbf),sl_qbf⟩)
  (h_qbf_c:PySem.W.codeIn K cd_qbf "_law_book" = true)
  (h_qbf_k:PySem.W.keepIn K (.ref f_qbf) = true)
  (h_qbh_a:PySem.W.nsIn K mainGlobals "_law_text" = some (some (.ref f_qbh)))
  (h_qbh_l:K.lookup f_qbh = some ⟨oc_qbh,od_qbh,.func (PySem.W.fnOf "_law_text" "_law_text" (Bo Jf) (Bl Jf) (Bc Jf) .none kV_qbh dc_qbh pm_qbh an_qbh cd_qbh ct_qbh),sl_qbh⟩)
  (h_qbh_c:PySem.W.codeIn K cd_qbh "_law_text" = true)
  (h_qbh_k:PySem.W.keepIn K (.ref f_qbh) = true)
  (h_qp_a:PySem.W.nsIn K mainGlobals "_law_parted" = some (some (.ref f_qp)))
  (h_qp_l:K.lookup f_qp = some ⟨oc_qp,od_qp,.func (PySem.W.fnOf "_law_parted" "_law_parted" (Bo Ow) (Bl Ow) (Bc Ow) .none kV_qp dc_qp pm_qp an_qp cd_qp ct_qp),sl_qp⟩)
  (h_qp_c:PySem.W.codeIn K cd_qp "_law_parted" = true)
  (h_qp_k:PySem.W.keepIn K (.ref f_qp) = true)
  (h_qy_a:PySem.W.nsIn K mainGlobals "_law_kinds" = some (some (.ref f_qy)))
  (h_qy_l:K.lookup f_qy = some ⟨oc_qy,od_qy,.func (PySem.W.fnOf "_law_kinds" "_law_kinds" (Bo Nz) (Bl Nz) (Bc Nz) .none kV_qy dc_qy pm_qy an_qy cd_qy ct_qy),sl_qy⟩)
  (h_qy_c:PySem.W.codeIn K cd_qy "_law_kinds" = true)
  (h_qy_k:PySem.W.keepIn K (.ref f_qy) = true)
  (h_qh_a:PySem.W.nsIn K mainGlobals "check_width" = some (some (.ref f_qh)))
  (h_qh_l:K.lookup f_qh = some ⟨oc_qh,od_qh,.func (PySem.W.fnOf "check_width" "check_width" (Bo Ob) (Bl Ob) (Bc Ob) .none kV_qh dc_qh pm_qh an_qh cd_qh ct_qh),sl_qh⟩)
  (h_qh_c:PySem.W.codeIn K cd_qh "check_width" = true)
  (h_qh_k:PySem.W.keepIn K (.ref f_qh) = true)
  (h_qt_a:PySem.W.findIn K (.ref C_Book) "kind" = some (some (.ref f_qt)))
  (h_qt_i:PySem.W.isFn K (.ref f_qt) = true)
  (h_qt_l:K.lookup f_qt = some ⟨oc_qt,od_qt,.func (PySem.W.fnOf "kind" "Book.kind" (Bo Oh) (Bl Oh) (Bc Oh) .none kV_qt dc_qt pm_qt an_qt cd_qt ct_qt),sl_qt⟩)
  (h_qt_c:PySem.W.codeIn K cd_qt "Book.kind" = true)
  (h_qt_k:PySem.W.keepIn K (.ref f_qt) = true)
  (h_qb_a:PySem.W.nsIn K mainGlobals "kind_of_whole" = some (some (.ref f_qb)))
  (h_qb_l:K.lookup f_qb = some ⟨oc_qb,od_qb,.func (PySem.W.fnOf "kind_of_whole" "kind_of_whole" (Bo Ou) (Bl Ou) (Bc Ou) .none kV_qb dc_qb pm_qb an_qb cd_qb ct_qb),sl_qb⟩)
  (h_qb_c:PySem.W.codeIn K cd_qb "kind_of_whole" = true)
  (h_qb_k:PySem.W.keepIn K (.ref f_qb) = true)
  (h_qbb_a:PySem.W.nsIn K mainGlobals "wholes_of" = some (some (.ref f_qbb)))
  (h_qbb_l:K.lookup f_qbb = some ⟨oc_qbb,od_qbb,.func (PySem.W.fnOf "wholes_of" "wholes_of" (Bo Jr) (Bl Jr) (Bc Jr) .none kV_qbb dc_qbb pm_qbb an_qbb cd_qbb ct_qbb),sl_qbb⟩)
  (h_qbb_c:PySem.W.codeIn K cd_qbb "wholes_of" = true)
  (h_qbb_k:PySem.W.keepIn K (.ref f_qbb) = true)
  (h_qbe_a:PySem.W.nsIn K mainGlobals "kinds_of" = some (some (.ref f_qbe)))
  (h_qbe_l:K.lookup f_qbe = some ⟨oc_qbe,od_qbe,.func (PySem.W.fnOf "kinds_of" "kinds_of" (Bo Jq) (Bl Jq) (Bc Jq) .none kV_qbe dc_qbe pm_qbe an_qbe cd_qbe ct_qbe),sl_qbe⟩)
  (h_qbe_c:PySem.W.codeIn K cd_qbe "kinds_of" = true)
  (h_qbe_k:PySem.W.keepIn K (.ref f_qbe) = true)
  (h_qbl_a:PySem.W.nsIn K mainGlobals "row_end" = some (some (.ref f_qbl)))
  (h_qbl_l:K.lookup f_qbl = some ⟨oc_qbl,od_qbl,.func (PySem.W.fnOf "row_end" "row_end" (Bo Jg) (Bl Jg) (Bc Jg) .none kV_qbl dc_qbl pm_qbl an_qbl cd_qbl ct_qbl),sl_qbl⟩)
  (h_qbl_c:PySem.W.codeIn K cd_qbl "row_end" = true)
  (h_qbl_k:PySem.W.keepIn K (.ref f_qbl) = true)
  (h_qbd_a:PySem.W.nsIn K mainGlobals "cut_rows" = some (some (.ref f_qbd)))
  (h_qbd_l:K.lookup f_qbd = some ⟨oc_qbd,od_qbd,.func (PySem.W.fnOf "cut_rows" "cut_rows" (Bo Jj) (Bl Jj) (Bc Jj) .none kV_qbd dc_qbd pm_qbd an_qbd cd_qbd ct_qbd),sl_qbd⟩)
  (h_qbd_c:PySem.W.codeIn K cd_qbd "cut_rows" = true)
  (h_qbd_k:PySem.W.keepIn K (.ref f_qbd) = true)
  (h_qba_a:PySem.W.nsIn K mainGlobals "_law_whole" = some (some (.ref f_qba)))
  (h_qba_l:K.lookup f_qba = some ⟨oc_qba,od_qba,.func (PySem.W.fnOf "_law_whole" "_law_whole" (Bo Jt) (Bl Jt) (Bc Jt) .none kV_qba dc_qba pm_qba an_qba cd_qba ct_qba),sl_qba⟩)
  (h_qba_c:PySem.W.codeIn K cd_qba "_law_whole" = true)
  (h_qba_k:PySem.W.keepIn K (.ref f_qba) = true)
  (h_qbk_a:PySem.W.nsIn K mainGlobals "_law_end" = some (some (.ref f_qbk)))
  (h_qbk_l:K.lookup f_qbk = some ⟨oc_qbk,od_qbk,.func (PySem.W.fnOf "_law_end" "_law_end" (Bo Jl) (Bl Jl) (Bc Jl) .none kV_qbk dc_qbk pm_qbk an_qbk cd_qbk ct_qbk),sl_qbk⟩)
  (h_qbk_c:PySem.W.codeIn K cd_qbk "_law_end" = true)
  (h_qbk_k:PySem.W.keepIn K (.ref f_qbk) = true)
  (h_qbn_a:PySem.W.nsIn K mainGlobals "law" = some (some (.ref f_qbn)))
  (h_qbn_l:K.lookup f_qbn = some ⟨oc_qbn,od_qbn,.func (PySem.W.fnOf "law" "law" (Bo Gb) (Bl Gb) (Bc Gb) .none kV_qbn dc_qbn pm_qbn an_qbn cd_qbn ct_qbn),sl_qbn⟩)
  (h_qbn_c:PySem.W.codeIn K cd_qbn "law" = true)
  (h_qbn_k:PySem.W.keepIn K (.ref f_qbn) = true)
  (pg_Book:PySem.W.plainGet K C_Book Str.empty = true)
  (hd_Book:PySem.W.hasDictIn K C_Book = true)
  (po_Book:PySem.W.plainOver K C_Book = true)
  (sa_Book:PySem.W.findIn K (.ref C_Book) "__setattr__" = some (some (.builtin "object.__setattr__")))
  (mk_Book:PySem.W.makesIn K C_Book = true)
  (kc_Book:PySem.W.keepIn K (.ref C_Book) = true)
  (n_Book_kinds:PySem.W.findIn K (.ref C_Book) "kinds" = some none)
  (n_Book_ranks:PySem.W.findIn K (.ref C_Book) "ranks" = some none)
  (n_Book_mates:PySem.W.findIn K (.ref C_Book) "mates" = some none)
  (n_Book_pairs:PySem.W.findIn K (.ref C_Book) "pairs" = some none)
  (n_Book_wholes:PySem.W.findIn K (.ref C_Book) "wholes" = some none)
  (z_bool:PySem.W.nsIn K mainGlobals "bool" = some none)
  (z_int:PySem.W.nsIn K mainGlobals "int" = some none)
  (z_isinstance:PySem.W.nsIn K mainGlobals "isinstance" = some none)
  (z_len:PySem.W.nsIn K mainGlobals "len" = some none)
  (z_list:PySem.W.nsIn K mainGlobals "list" = some none)
  (z_max:PySem.W.nsIn K mainGlobals "max" = some none)
  (z_range:PySem.W.nsIn K mainGlobals "range" = some none)
  (z_str:PySem.W.nsIn K mainGlobals "str" = some none)
  (z_tuple:PySem.W.nsIn K mainGlobals "tuple" = some none)
  (g_JOINED_KINDS:PySem.W.nsIn K mainGlobals "JOINED_KINDS" = some (some (.ref a_JOINED_KINDS)))
  (l_JOINED_KINDS:K.lookup a_JOINED_KINDS = some ⟨.type "tuple",od_JOINED_KINDS,.seq its_JOINED_KINDS n_JOINED_KINDS,sl_JOINED_KINDS⟩)
  (s_JOINED_KINDS:its_JOINED_KINDS.size <= sizeLine)
  (v_JOINED_KINDS:Vals [.str "fore",.str "back",.str "num",.str "blank",.str "plain"] its_JOINED_KINDS.toList)
  (g_MOST_GOINGS:PySem.W.nsIn K mainGlobals "MOST_GOINGS" = some (some u_MOST_GOINGS))
  (r_MOST_GOINGS:RelV (.int 7) u_MOST_GOINGS)
  (g_TOLD_KINDS:PySem.W.nsIn K mainGlobals "TOLD_KINDS" = some (some (.ref a_TOLD_KINDS)))
  (l_TOLD_KINDS:K.lookup a_TOLD_KINDS = some ⟨.type "tuple",od_TOLD_KINDS,.seq its_TOLD_KINDS n_TOLD_KINDS,sl_TOLD_KINDS⟩)
  (s_TOLD_KINDS:its_TOLD_KINDS.size <= sizeLine)
  (v_TOLD_KINDS:Vals [.str "fore",.str "back",.str "num",.str "blank",.str "mark",.str "forein",.str "backin",.str "out"] its_TOLD_KINDS.toList)
  : ∃ fd:FuncData,(∀ (s:Shared) (v:Value),BindsTo s fd ⟨[v],[]⟩ [("_law_script",v)])/\∀ base:Heap,K.In base->base.Ns mainGlobals mg->FnOk l.prog w K mg base CX0 8 fa fd ["_law_script"] (Sq K):=by
 have e:=hfa.symm.trans (PySem.W.mg_of X G h_qbn_a)
 cases e
 have T:Txt K mg ⟨f_qi,PySem.W.fnOf "_law_cell_at" "_law_cell_at" (Bo Oa) (Bl Oa) (Bc Oa) .none kV_qi dc_qi pm_qi an_qi cd_qi ct_qi,f_qbg,PySem.W.fnOf "_law_sign" "_law_sign" (Bo Js) (Bl Js) (Bc Js) .none kV_qbg dc_qbg pm_qbg an_qbg cd_qbg ct_qbg,f_qbi,PySem.W.fnOf "_law_told" "_law_told" (Bo Jp) (Bl Jp) (Bc Jp) .none kV_qbi dc_qbi pm_qbi an_qbi cd_qbi ct_qbi,f_qc,PySem.W.fnOf "refuse_unless" "refuse_unless" (Bo Oc) (Bl Oc) (Bc Oc) .none kV_qc dc_qc pm_qc an_qc cd_qc ct_qc,f_qd,PySem.W.fnOf "check_tuples" "check_tuples" (Bo Ni) (Bl Ni) (Bc Ni) .none kV_qd dc_qd pm_qd an_qd cd_qd ct_qd,f_qa,PySem.W.fnOf "is_whole_number" "is_whole_number" (Bo Np) (Bl Np) (Bc Np) .none kV_qa dc_qa pm_qa an_qa cd_qa ct_qa,f_qbj,PySem.W.fnOf "is_sign" "is_sign" (Bo Jo) (Bl Jo) (Bc Jo) .none kV_qbj dc_qbj pm_qbj an_qbj cd_qbj ct_qbj,f_qbc,PySem.W.fnOf "add_kind" "add_kind" (Bo Ji) (Bl Ji) (Bc Ji) .none kV_qbc dc_qbc pm_qbc an_qbc cd_qbc ct_qbc,f_qf,PySem.W.fnOf "is_told_kind" "is_told_kind" (Bo Oj) (Bl Oj) (Bc Oj) .none kV_qf dc_qf pm_qf an_qf cd_qf ct_qf,f_qm,PySem.W.fnOf "is_rank_of" "is_rank_of" (Bo Nx) (Bl Nx) (Bc Nx) .none kV_qm dc_qm pm_qm an_qm cd_qm ct_qm,f_qo,PySem.W.fnOf "kinds_told" "kinds_told" (Bo Od) (Bl Od) (Bc Od) .none kV_qo dc_qo pm_qo an_qo cd_qo ct_qo,f_qr,PySem.W.fnOf "ranks_told" "ranks_told" (Bo Ng) (Bl Ng) (Bc Ng) .none kV_qr dc_qr pm_qr an_qr cd_qr ct_qr,f_qw,PySem.W.fnOf "both_ways" "both_ways" (Bo Nm) (Bl Nm) (Bc Nm) .none kV_qw dc_qw pm_qw an_qw cd_qw ct_qw,f_qn,PySem.W.fnOf "kind_among" "kind_among" (Bo Ot) (Bl Ot) (Bc Ot) .none kV_qn dc_qn pm_qn an_qn cd_qn ct_qn,f_ql,PySem.W.fnOf "check_join" "check_join" (Bo No) (Bl No) (Bc No) .none kV_ql dc_ql pm_ql an_ql cd_ql ct_ql,f_qe,PySem.W.fnOf "ends_in_time" "ends_in_time" (Bo Oe) (Bl Oe) (Bc Oe) .none kV_qe dc_qe pm_qe an_qe cd_qe ct_qe,f_qq,PySem.W.fnOf "pairs_told" "pairs_told" (Bo Nk) (Bl Nk) (Bc Nk) .none kV_qq dc_qq pm_qq an_qq cd_qq ct_qq,f_qj,PySem.W.fnOf "wholes_told" "wholes_told" (Bo Ov) (Bl Ov) (Bc Ov) .none kV_qj dc_qj pm_qj an_qj cd_qj ct_qj,f_qs,PySem.W.fnOf "__init__" "Book.__init__" (Bo On) (Bl On) (Bc On) .none kV_qs dc_qs pm_qs an_qs cd_qs ct_qs,f_qz,PySem.W.fnOf "_law_mates" "_law_mates" (Bo Oi) (Bl Oi) (Bc Oi) .none kV_qz dc_qz pm_qz an_qz cd_qz ct_qz,f_qx,PySem.W.fnOf "_law_joins" "_law_joins" (Bo Nt) (Bl Nt) (Bc Nt) .none kV_qx dc_qx pm_qx an_qx cd_qx ct_qx,f_qbf,PySem.W.fnOf "_law_book" "_law_book" (Bo Je) (Bl Je) (Bc Je) .none kV_qbf dc_qbf pm_qbf an_qbf cd_qbf ct_qbf,f_qbh,PySem.W.fnOf "_law_text" "_law_text" (Bo Jf) (Bl Jf) (Bc Jf) .none kV_qbh dc_qbh pm_qbh an_qbh cd_qbh ct_qbh,f_qp,PySem.W.fnOf "_law_parted" "_law_parted" (Bo Ow) (Bl Ow) (Bc Ow) .none kV_qp dc_qp pm_qp an_qp cd_qp ct_qp,f_qy,PySem.W.fnOf "_law_kinds" "_law_kinds" (Bo Nz) (Bl Nz) (Bc Nz) .none kV_qy dc_qy pm_qy an_qy cd_qy ct_qy,f_qh,PySem.W.fnOf "check_width" "check_width" (Bo Ob) (Bl Ob) (Bc Ob) .none kV_qh dc_qh pm_qh an_qh cd_qh ct_qh,f_qt,PySem.W.fnOf "kind" "Book.kind" (Bo Oh) (Bl Oh) (Bc Oh) .none kV_qt dc_qt pm_qt an_qt cd_qt ct_qt,f_qb,PySem.W.fnOf "kind_of_whole" "kind_of_whole" (Bo Ou) (Bl Ou) (Bc Ou) .none kV_qb dc_qb pm_qb an_qb cd_qb ct_qb,f_qbb,PySem.W.fnOf "wholes_of" "wholes_of" (Bo Jr) (Bl Jr) (Bc Jr) .none kV_qbb dc_qbb pm_qbb an_qbb cd_qbb ct_qbb,f_qbe,PySem.W.fnOf "kinds_of" "kinds_of" (Bo Jq) (Bl Jq) (Bc Jq) .none kV_qbe dc_qbe pm_qbe an_qbe cd_qbe ct_qbe,f_qbl,PySem.W.fnOf "row_end" "row_end" (Bo Jg) (Bl Jg) (Bc Jg) .none kV_qbl dc_qbl pm_qbl an_qbl cd_qbl ct_qbl,f_qbd,PySem.W.fnOf "cut_rows" "cut_rows" (Bo Jj) (Bl Jj) (Bc Jj) .none kV_qbd dc_qbd pm_qbd an_qbd cd_qbd ct_qbd,f_qba,PySem.W.fnOf "_law_whole" "_law_whole" (Bo Jt) (Bl Jt) (Bc Jt) .none kV_qba dc_qba pm_qba an_qba cd_qba ct_qba,f_qbk,PySem.W.fnOf "_law_end" "_law_end" (Bo Jl) (Bl Jl) (Bc Jl) .none kV_qbk dc_qbk pm_qbk an_qbk cd_qbk ct_qbk,fa,PySem.W.fnOf "law" "law" (Bo Gb) (Bl Gb) (Bc Gb) .none kV_qbn dc_qbn pm_qbn an_qbn cd_qbn ct_qbn,C_Book,a_JOINED_KINDS,a_TOLD_KINDS⟩:={
  F_qi:=Ch (st:=Oa) h_qi_l h_qi_c h_qi_k
  m_qi:=PySem.W.mg_of X G h_qi_a
  F_qbg:=Ch (st:=Js) h_qbg_l h_qbg_c h_qbg_k
  m_qbg:=PySem.W.mg_of X G h_qbg_a
  F_qbi:=Ch (st:=Jp) h_qbi_l h_qbi_c h_qbi_k
  m_qbi:=PySem.W.mg_of X G h_qbi_a
  F_qc:=Ch (st:=Oc) h_qc_l h_qc_c h_qc_k
  m_qc:=PySem.W.mg_of X G h_qc_a
  F_qd:=Ch (st:=Ni) h_qd_l h_qd_c h_qd_k
  m_qd:=PySem.W.mg_of X G h_qd_a
  F_qa:=Ch (st:=Np) h_qa_l h_qa_c h_qa_k
  m_qa:=PySem.W.mg_of X G h_qa_a
  F_qbj:=Ch (st:=Jo) h_qbj_l h_qbj_c h_qbj_k
  m_qbj:=PySem.W.mg_of X G h_qbj_a
  F_qbc:=Ch (st:=Ji) h_qbc_l h_qbc_c h_qbc_k
  m_qbc:=PySem.W.mg_of X G h_qbc_a
  F_qf:=Ch (st:=Oj) h_qf_l h_qf_c h_qf_k
  m_qf:=PySem.W.mg_of X G h_qf_a
  F_qm:=Ch (st:=Nx) h_qm_l h_qm_c h_qm_k
  m_qm:=PySem.W.mg_of X G h_qm_a
  F_qo:=Ch (st:=Od) h_qo_l h_qo_c h_qo_k
  m_qo:=PySem.W.mg_of X G h_qo_a
  F_qr:=Ch (st:=Ng) h_qr_l h_qr_c h_qr_k
  m_qr:=PySem.W.mg_of X G h_qr_a
  F_qw:=Ch (st:=Nm) h_qw_l h_qw_c h_qw_k
  m_qw:=PySem.W.mg_of X G h_qw_a
  F_qn:=Ch (st:=Ot) h_qn_l h_qn_c h_qn_k
  m_qn:=PySem.W.mg_of X G h_qn_a
  F_ql:=Ch (st:=No) h_ql_l h_ql_c h_ql_k
  m_ql:=PySem.W.mg_of X G h_ql_a
  F_qe:=Ch (st:=Oe) h_qe_l h_qe_c h_qe_k
  m_qe:=PySem.W.mg_of X G h_qe_a
  F_qq:=Ch (st:=Nk) h_qq_l h_qq_c h_qq_k
  m_qq:=PySem.W.mg_of X G h_qq_a
  F_qj:=Ch (st:=Ov) h_qj_l h_qj_c h_qj_k
  m_qj:=PySem.W.mg_of X G h_qj_a
  F_qs:=Ch (st:=On) h_qs_l h_qs_c h_qs_k
  F_qz:=Ch (st:=Oi) h_qz_l h_qz_c h_qz_k
  m_qz:=PySem.W.mg_of X G h_qz_a
  F_qx:=Ch (st:=Nt) h_qx_l h_qx_c h_qx_k
  m_qx:=PySem.W.mg_of X G h_qx_a
  F_qbf:=Ch (st:=Je) h_qbf_l h_qbf_c h_qbf_k
  m_qbf:=PySem.W.mg_of X G h_qbf_a
  F_qbh:=Ch (st:=Jf) h_qbh_l h_qbh_c h_qbh_k
  m_qbh:=PySem.W.mg_of X G h_qbh_a
  F_qp:=Ch (st:=Ow) h_qp_l h_qp_c h_qp_k
  m_qp:=PySem.W.mg_of X G h_qp_a
  F_qy:=Ch (st:=Nz) h_qy_l h_qy_c h_qy_k
  m_qy:=PySem.W.mg_of X G h_qy_a
  F_qh:=Ch (st:=Ob) h_qh_l h_qh_c h_qh_k
  m_qh:=PySem.W.mg_of X G h_qh_a
  F_qt:=Ch (st:=Oh) h_qt_l h_qt_c h_qt_k
  M_qt:=⟨h_qt_a,h_qt_i,h_qt_k⟩
  F_qb:=Ch (st:=Ou) h_qb_l h_qb_c h_qb_k
  m_qb:=PySem.W.mg_of X G h_qb_a
  F_qbb:=Ch (st:=Jr) h_qbb_l h_qbb_c h_qbb_k
  m_qbb:=PySem.W.mg_of X G h_qbb_a
  F_qbe:=Ch (st:=Jq) h_qbe_l h_qbe_c h_qbe_k
  m_qbe:=PySem.W.mg_of X G h_qbe_a
  F_qbl:=Ch (st:=Jg) h_qbl_l h_qbl_c h_qbl_k
  m_qbl:=PySem.W.mg_of X G h_qbl_a
  F_qbd:=Ch (st:=Jj) h_qbd_l h_qbd_c h_qbd_k
  m_qbd:=PySem.W.mg_of X G h_qbd_a
  F_qba:=Ch (st:=Jt) h_qba_l h_qba_c h_qba_k
  m_qba:=PySem.W.mg_of X G h_qba_a
  F_qbk:=Ch (st:=Jl) h_qbk_l h_qbk_c h_qbk_k
  m_qbk:=PySem.W.mg_of X G h_qbk_a
  F_qbn:=Ch (st:=Gb) h_qbn_l h_qbn_c h_qbn_k
  m_qbn:=PySem.W.mg_of X G h_qbn_a
  m_Book:=PySem.W.mg_of X G aC_Book
  cl_Book:=⟨pg_Book,hd_Book,po_Book,sa_Book⟩
  K_Book:=⟨mk_Book,h_qs_a,h_qs_i,kc_Book⟩
  n_Book_kinds:=n_Book_kinds
  n_Book_ranks:=n_Book_ranks
  n_Book_mates:=n_Book_mates
  n_Book_pairs:=n_Book_pairs
  n_Book_wholes:=n_Book_wholes
  z_bool:=PySem.W.mg_none_of X G z_bool
  z_int:=PySem.W.mg_none_of X G z_int
  z_isinstance:=PySem.W.mg_none_of X G z_isinstance
  z_len:=PySem.W.mg_none_of X G z_len
  z_list:=PySem.W.mg_none_of X G z_list
  z_max:=PySem.W.mg_none_of X G z_max
  z_range:=PySem.W.mg_none_of X G z_range
  z_str:=PySem.W.mg_none_of X G z_str
  z_tuple:=PySem.W.mg_none_of X G z_tuple
  g_JOINED_KINDS:=PySem.W.mg_of X G g_JOINED_KINDS
  q_JOINED_KINDS:=fun _=>.inr ⟨_,_,_,l_JOINED_KINDS,rfl,rfl,s_JOINED_KINDS,v_JOINED_KINDS⟩
  g_MOST_GOINGS:=⟨_,PySem.W.mg_of X G g_MOST_GOINGS,r_MOST_GOINGS⟩
  g_TOLD_KINDS:=PySem.W.mg_of X G g_TOLD_KINDS
  q_TOLD_KINDS:=fun _=>.inr ⟨_,_,_,l_TOLD_KINDS,rfl,rfl,s_TOLD_KINDS,v_TOLD_KINDS⟩ }
 exact ⟨PySem.W.fnOf "law" "law" (Bo Gb) (Bl Gb) (Bc Gb) .none kV_qbn dc_qbn pm_qbn an_qbn cd_qbn ct_qbn,fun s v=>.of_eq rfl,fun base _ _=>(Afm T).imp Ae6⟩
theorem walk {l:PySem.W.OpenLaw} {q:Program} {loose:List Str} {XP:(Str->Option Value)->Heap->Prop} {YP:World->Heap->Prop} {d:DefRec} {K:Params->PySem.W.Frag} (hn:l.most = some 63) (hdf:d.params.defaults = [])
  (hY:∀ (w:World) (h:Heap),YP w h->(K w.params).In h)
  (F:∀ (w:World) (mg:Str->Option Value) (fa:Addr) (h:Heap),(K w.params).In h->h.Ns mainGlobals mg->mg d.name = some (.ref fa) ->
   ∃ fd:FuncData,(∀ (s:Shared) (u:Value),BindsTo s fd ⟨[u],[]⟩ [("_law_script",u)])/\∀ base:Heap,(K w.params).In base->base.Ns mainGlobals mg->FnOk l.prog w (K w.params) mg base CX0 8 fa fd ["_law_script"] (Sq (K w.params))) :
  PySem.W.WalkO q loose XP YP l.row.toRowW d [] (fun f vs=>PySem.call f vs) :=
 L2.AiX (n:=63) (k:=8) (x:="_law_script") (CX:=fun w=>CX0) (sp:=fun w=>Sq (K w.params)) hn (by decide) hdf ⟨rfl,by decide,by decide⟩ hY F (fun _ _ a ns hl _ hS=>⟨a,ns,rfl,hS,hl,fun _=>rfl⟩) fun _ _ _ _ _ z=>z
end My
open PySem PySem.W PyProof.Rows
set_option maxRecDepth 100000 in
set_option maxHeartbeats 0 in
theorem PySem.Challenge.cw_bothhands_k43_rows_holds : PySem.Challenge.rw_bothhands_k43_rows.Holds := by
 w_on; o_law; k_head; (case hw=>w_witness2)
 k_fill
 refine My.walk (l:=PySem.Challenge.rw_bothhands_k43_rows) rfl rfl (fun w h Y=>PySem.W.kIn_of Y) ?F
 case F =>
  intro w mg fa h KX G hmg
  refine' My.all_mk KX G hmg ?aC_Book ?h_qi_a ?h_qi_l ?h_qi_c ?h_qi_k ?h_qbg_a ?h_qbg_l ?h_qbg_c ?h_qbg_k ?h_qbi_a ?h_qbi_l ?h_qbi_c ?h_qbi_k ?h_qc_a ?h_qc_l ?h_qc_c ?h_qc_k ?h_qd_a ?h_qd_l ?h_qd_c ?h_qd_k ?h_qa_a ?h_qa_l ?h_qa_c ?h_qa_k ?h_qbj_a ?h_qbj_l ?h_qbj_c ?h_qbj_k ?h_qbc_a ?h_qbc_l ?h_qbc_c ?h_qbc_k ?h_qf_a ?h_qf_l ?h_qf_c ?h_qf_k ?h_qm_a ?h_qm_l ?h_qm_c ?h_qm_k ?h_qo_a ?h_qo_l ?h_qo_c ?h_qo_k ?h_qr_a ?h_qr_l ?h_qr_c ?h_qr_k ?h_qw_a ?h_qw_l ?h_qw_c ?h_qw_k ?h_qn_a ?h_qn_l ?h_qn_c ?h_qn_k ?h_ql_a ?h_ql_l ?h_ql_c ?h_ql_k ?h_qe_a ?h_qe_l ?h_qe_c ?h_qe_k ?h_qq_a ?h_qq_l ?h_qq_c ?h_qq_k ?h_qj_a ?h_qj_l ?h_qj_c ?h_qj_k ?h_qs_a ?h_qs_i ?h_qs_l ?h_qs_c ?h_qs_k ?h_qz_a ?h_qz_l ?h_qz_c ?h_qz_k ?h_qx_a ?h_qx_l ?h_qx_c ?h_qx_k ?h_qbf_a ?h_qbf_l ?h_qbf_c ?h_qbf_k ?h_qbh_a ?h_qbh_l ?h_qbh_c ?h_qbh_k ?h_qp_a ?h_qp_l ?h_qp_c ?h_qp_k ?h_qy_a ?h_qy_l ?h_qy_c ?h_qy_k ?h_qh_a ?h_qh_l ?h_qh_c ?h_qh_k ?h_qt_a ?h_qt_i ?h_qt_l ?h_qt_c ?h_qt_k ?h_qb_a ?h_qb_l ?h_qb_c ?h_qb_k ?h_qbb_a ?h_qbb_l ?h_qbb_c ?h_qbb_k ?h_qbe_a ?h_qbe_l ?h_qbe_c ?h_qbe_k ?h_qbl_a ?h_qbl_l ?h_qbl_c ?h_qbl_k ?h_qbd_a ?h_qbd_l ?h_qbd_c ?h_qbd_k ?h_qba_a ?h_qba_l ?h_qba_c ?h_qba_k ?h_qbk_a ?h_qbk_l ?h_qbk_c ?h_qbk_k ?h_qbn_a ?h_qbn_l ?h_qbn_c ?h_qbn_k ?pg_Book ?hd_Book ?po_Book ?sa_Book ?mk_Book ?kc_Book ?n_Book_kinds ?n_Book_ranks ?n_Book_mates ?n_Book_pairs ?n_Book_wholes ?z_bool ?z_int ?z_isinstance ?z_len ?z_list ?z_max ?z_range ?z_str ?z_tuple ?g_JOINED_KINDS ?l_JOINED_KINDS ?s_JOINED_KINDS ?v_JOINED_KINDS ?g_MOST_GOINGS ?r_MOST_GOINGS ?g_TOLD_KINDS ?l_TOLD_KINDS ?s_TOLD_KINDS ?v_TOLD_KINDS
  (case aC_Book=>k_is)
  (case h_qi_a=>k_is)
  (case h_qi_l=>k_is)
  (case h_qi_c=>k_is)
  (case h_qi_k=>k_is)
  (case h_qbg_a=>k_is)
  (case h_qbg_l=>k_is)
  (case h_qbg_c=>k_is)
  (case h_qbg_k=>k_is)
  (case h_qbi_a=>k_is)
  (case h_qbi_l=>k_is)
  (case h_qbi_c=>k_is)
  (case h_qbi_k=>k_is)
  (case h_qc_a=>k_is)
  (case h_qc_l=>k_is)
  (case h_qc_c=>k_is)
  (case h_qc_k=>k_is)
  (case h_qd_a=>k_is)
  (case h_qd_l=>k_is)
  (case h_qd_c=>k_is)
  (case h_qd_k=>k_is)
  (case h_qa_a=>k_is)
  (case h_qa_l=>k_is)
  (case h_qa_c=>k_is)
  (case h_qa_k=>k_is)
  (case h_qbj_a=>k_is)
  (case h_qbj_l=>k_is)
  (case h_qbj_c=>k_is)
  (case h_qbj_k=>k_is)
  (case h_qbc_a=>k_is)
  (case h_qbc_l=>k_is)
  (case h_qbc_c=>k_is)
  (case h_qbc_k=>k_is)
  (case h_qf_a=>k_is)
  (case h_qf_l=>k_is)
  (case h_qf_c=>k_is)
  (case h_qf_k=>k_is)
  (case h_qm_a=>k_is)
  (case h_qm_l=>k_is)
  (case h_qm_c=>k_is)
  (case h_qm_k=>k_is)
  (case h_qo_a=>k_is)
  (case h_qo_l=>k_is)
  (case h_qo_c=>k_is)
  (case h_qo_k=>k_is)
  (case h_qr_a=>k_is)
  (case h_qr_l=>k_is)
  (case h_qr_c=>k_is)
  (case h_qr_k=>k_is)
  (case h_qw_a=>k_is)
  (case h_qw_l=>k_is)
  (case h_qw_c=>k_is)
  (case h_qw_k=>k_is)
  (case h_qn_a=>k_is)
  (case h_qn_l=>k_is)
  (case h_qn_c=>k_is)
  (case h_qn_k=>k_is)
  (case h_ql_a=>k_is)
  (case h_ql_l=>k_is)
  (case h_ql_c=>k_is)
  (case h_ql_k=>k_is)
  (case h_qe_a=>k_is)
  (case h_qe_l=>k_is)
  (case h_qe_c=>k_is)
  (case h_qe_k=>k_is)
  (case h_qq_a=>k_is)
  (case h_qq_l=>k_is)
  (case h_qq_c=>k_is)
  (case h_qq_k=>k_is)
  (case h_qj_a=>k_is)
  (case h_qj_l=>k_is)
  (case h_qj_c=>k_is)
  (case h_qj_k=>k_is)
  (case h_qs_a=>k_is)
  (case h_qs_i=>k_is)
  (case h_qs_l=>k_is)
  (case h_qs_c=>k_is)
  (case h_qs_k=>k_is)
  (case h_qz_a=>k_is)
  (case h_qz_l=>k_is)
  (case h_qz_c=>k_is)
  (case h_qz_k=>k_is)
  (case h_qx_a=>k_is)
  (case h_qx_l=>k_is)
  (case h_qx_c=>k_is)
  (case h_qx_k=>k_is)
  (case h_qbf_a=>k_is)
  (case h_qbf_l=>k_is)
  (case h_qbf_c=>k_is)
  (case h_qbf_k=>k_is)
  (case h_qbh_a=>k_is)
  (case h_qbh_l=>k_is)
  (case h_qbh_c=>k_is)
  (case h_qbh_k=>k_is)
  (case h_qp_a=>k_is)
  (case h_qp_l=>k_is)
  (case h_qp_c=>k_is)
  (case h_qp_k=>k_is)
  (case h_qy_a=>k_is)
  (case h_qy_l=>k_is)
  (case h_qy_c=>k_is)
  (case h_qy_k=>k_is)
  (case h_qh_a=>k_is)
  (case h_qh_l=>k_is)
  (case h_qh_c=>k_is)
  (case h_qh_k=>k_is)
  (case h_qt_a=>k_is)
  (case h_qt_i=>k_is)
  (case h_qt_l=>k_is)
  (case h_qt_c=>k_is)
  (case h_qt_k=>k_is)
  (case h_qb_a=>k_is)
  (case h_qb_l=>k_is)
  (case h_qb_c=>k_is)
  (case h_qb_k=>k_is)
  (case h_qbb_a=>k_is)
  (case h_qbb_l=>k_is)
  (case h_qbb_c=>k_is)
  (case h_qbb_k=>k_is)
  (case h_qbe_a=>k_is)
  (case h_qbe_l=>k_is)
  (case h_qbe_c=>k_is)
  (case h_qbe_k=>k_is)
  (case h_qbl_a=>k_is)
  (case h_qbl_l=>k_is)
  (case h_qbl_c=>k_is)
  (case h_qbl_k=>k_is)
  (case h_qbd_a=>k_is)
  (case h_qbd_l=>k_is)
  (case h_qbd_c=>k_is)
  (case h_qbd_k=>k_is)
  (case h_qba_a=>k_is)
  (case h_qba_l=>k_is)
  (case h_qba_c=>k_is)
  (case h_qba_k=>k_is)
  (case h_qbk_a=>k_is)
  (case h_qbk_l=>k_is)
  (case h_qbk_c=>k_is)
  (case h_qbk_k=>k_is)
  (case h_qbn_a=>k_is)
  (case h_qbn_l=>k_is)
  (case h_qbn_c=>k_is)
  (case h_qbn_k=>k_is)
  (case pg_Book=>k_is)
  (case hd_Book=>k_is)
  (case po_Book=>k_is)
  (case sa_Book=>k_is)
  (case mk_Book=>k_is)
  (case kc_Book=>k_is)
  (case n_Book_kinds=>k_is)
  (case n_Book_ranks=>k_is)
  (case n_Book_mates=>k_is)
  (case n_Book_pairs=>k_is)
  (case n_Book_wholes=>k_is)
  (case z_bool=>k_is)
  (case z_int=>k_is)
  (case z_isinstance=>k_is)
  (case z_len=>k_is)
  (case z_list=>k_is)
  (case z_max=>k_is)
  (case z_range=>k_is)
  (case z_str=>k_is)
  (case z_tuple=>k_is)
  (case g_JOINED_KINDS=>k_is)
  (case l_JOINED_KINDS=>k_is)
  (case s_JOINED_KINDS=>decide)
  (case v_JOINED_KINDS=>exact .cons ⟨_,rfl⟩ (.cons ⟨_,rfl⟩ (.cons ⟨_,rfl⟩ (.cons ⟨_,rfl⟩ (.cons ⟨_,rfl⟩ (.nil))))))
  (case g_MOST_GOINGS=>k_is)
  (case r_MOST_GOINGS=>exact ⟨_,rfl⟩)
  (case g_TOLD_KINDS=>k_is)
  (case l_TOLD_KINDS=>k_is)
  (case s_TOLD_KINDS=>decide)
  (case v_TOLD_KINDS=>exact .cons ⟨_,rfl⟩ (.cons ⟨_,rfl⟩ (.cons ⟨_,rfl⟩ (.cons ⟨_,rfl⟩ (.cons ⟨_,rfl⟩ (.cons ⟨_,rfl⟩ (.cons ⟨_,rfl⟩ (.cons ⟨_,rfl⟩ (.nil)))))))))
