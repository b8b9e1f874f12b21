import PyProof.Rows.All
import Wide.All
import OpenK.AllK
import Wide.FinOn
import Lean
import PyProof.EqAt
import PyProof.EqKinds
import PyProof.TupleCall
import PyProof.NeKinds
import PyProof.DictItems
import PyProof.DictWalks
import KE.KTurnsDict
import KE.KDictSum
import KE.KSortKey
import KE.KBoundM
import KE.KMinKey
import KE.KRevIter
import KE.KFind
import KE.LcSums
import PyProof.ListRange
import PyProof.CollectIter
import PyProof.ConsumeWalk
import PyProof.ZipIter
import PySem.Challenge.RW_bothhands_k23_no_way
set_option Elab.async false
set_option linter.all false
set_option maxRecDepth 100000
namespace L2
open PySem PySem.Spec PyProof.Rows
abbrev Key:=Sum Int Str
def Tm:Key->Value->Bool
 | .inl k,v=>Value.isInt k v
 | .inr x,v=>Value.isStrOf x v
def Al4 (w:World):Key->Int
 | .inl k=>hashInt k
 | .inr x=>hashStr w x
theorem Fb:∀ {k:Key} {v:Value},Tm k v = true->(∃ i t,k = Sum.inl i/\v = Value.int i t)\/(∃ x t,k = Sum.inr x/\v = Value.str x t)
 | .inl i,v,h=>by
  obtain ⟨t,e⟩:=Value.isInt_shape (k:=i) (v:=v) h
  exact .inl ⟨i,t,rfl,e⟩
 | .inr x,v,h=>by
  obtain ⟨t,e⟩:=Value.isStrOf_shape (x:=x) (v:=v) h
  exact .inr ⟨x,t,rfl,e⟩
theorem Acy (i:Int) (t:Tok):Tm (.inl i) (.int i t) = true:=by simp [Tm,Value.isInt]
theorem Adl (x:Str) (t:Tok):Tm (.inr x) (.str x t) = true:=by simp [Tm,Value.isStrOf]
theorem AiT (a b:Int):decide ((Sum.inl a:Key) = Sum.inl b) = (a == b):=by
 by_cases e:a = b
 ·subst e; simp
 ·have h:¬ (Sum.inl a:Key) = Sum.inl b:=fun q=>e (Sum.inl.inj q)
  rw [decide_eq_false h]
  exact (beq_eq_false_iff_ne.mpr e).symm
theorem Ajg (a b:Str):decide ((Sum.inr a:Key) = Sum.inr b) = decide (a = b):=by
 by_cases e:a = b
 ·subst e; simp
 ·have h:¬ (Sum.inr a:Key) = Sum.inr b:=fun q=>e (Sum.inr.inj q)
  rw [decide_eq_false h,decide_eq_false e]
theorem Aji (a:Int) (b:Str):decide ((Sum.inl a:Key) = Sum.inr b) = false:=decide_eq_false (fun q=>nomatch q)
theorem Aid (a:Str) (b:Int):decide ((Sum.inr a:Key) = Sum.inl b) = false:=decide_eq_false (fun q=>nomatch q)
def Dc (prog:Program) (w:World):PySem.KeyKind prog w Key where
 is:=Tm
 hash:=Al4 w
 inj:=fun v a b ha hb=>by
  rcases Fb ha with ⟨i,t,rfl,rfl⟩ | ⟨x,t,rfl,rfl⟩
  ·rcases Fb hb with ⟨j,u,rfl,e⟩ | ⟨y,u,rfl,e⟩
   ·injection e with e1 _; rw [e1]
   ·exact nomatch e
  ·rcases Fb hb with ⟨j,u,rfl,e⟩ | ⟨y,u,rfl,e⟩
   ·exact nomatch e
   ·injection e with e1 _; rw [e1]
 byValue:=fun k v h=>by
  rcases Fb h with ⟨i,t,rfl,rfl⟩ | ⟨x,t,rfl,rfl⟩ <;> rfl
 pyHash:=fun hv h=>by
  rcases Fb hv with ⟨i,t,rfl,rfl⟩ | ⟨x,t,rfl,rfl⟩
  ·exact wpAny_pyHash_int h
  ·exact wpAny_pyHash_str h
 eqBool:=fun hu hv h=>by
  rcases Fb hu with ⟨i,t,rfl,rfl⟩ | ⟨x,t,rfl,rfl⟩
  ·rcases Fb hv with ⟨j,u,rfl,rfl⟩ | ⟨y,u,rfl,rfl⟩
   ·rw [AiT] at h; exact wpAny_eqBool_int h
   ·rw [Aji] at h; exact SeqAt.EqAt.int_str i t y u _ _ _ _ h
  ·rcases Fb hv with ⟨j,u,rfl,rfl⟩ | ⟨y,u,rfl,rfl⟩
   ·rw [Aid] at h; exact SeqAt.EqAt.str_int x t j u _ _ _ _ h
   ·rw [Ajg] at h; exact wpAny_eqBool_str h
 «strs»:=fun k x t v h=>by
  rcases Fb h with ⟨i,u,rfl,e⟩ | ⟨y,u,rfl,e⟩
  ·exact nomatch e
  ·injection e with e1 _
   subst e1
   cases v <;> rfl
theorem Aaj (prog:Program) (w:World) (i:Int) (t:Tok):(Dc prog w).is (.inl i) (.int i t) = true:=Acy i t
theorem Aam (prog:Program) (w:World) (x:Str) (t:Tok):(Dc prog w).is (.inr x) (.str x t) = true:=Adl x t
end L2
namespace L2
open PySem PySem.Spec PyProof.Rows
inductive V where
 | non | bl (b:Bool) | int (i:Int) | str (x:Str) | byt (b:Array UInt8) | flt (b:UInt64) | ref (a:Addr) | ty (n:String)
 deriving DecidableEq
def RelV:V->Value->Prop
 | .non,u=>u = Value.none
 | .bl b,u=>u = Value.bool b
 | .int i,u=>∃ t,u = Value.int i t
 | .str x,u=>∃ t,u = Value.str x t
 | .byt b,u=>∃ t,u = Value.bytes b t
 | .flt b,u=>∃ t,u = Value.float b t
 | .ref a,u=>u = Value.ref a
 | .ty n,u=>u = Value.type n
abbrev Vals:List V->List Value->Prop:=Paired RelV
theorem Vals.length {xs:List V} {us:List Value} (r:Vals xs us):xs.length = us.length:=Paired.length r
theorem Vals.get:∀ {xs:List V} {us:List Value} {i:Nat} {x:V},Vals xs us->xs[i]? = some x->∃ u,us[i]? = some u/\RelV x u
 | _,_,_,_,.nil,e=>by simp at e
 | _,_,0,_,.cons r _,e=>by simp at e; subst e; exact ⟨_,rfl,r⟩
 | _,_,i + 1,x,.cons _ t,e=>by
  obtain ⟨u,h1,h2⟩:=Vals.get (i:=i) (x:=x) t (by simpa using e)
  exact ⟨u,by simpa using h1,h2⟩
theorem Vals.append:∀ {xs ys:List V} {us ws:List Value},Vals xs us->Vals ys ws->Vals (xs ++ ys) (us ++ ws)
 | _,_,_,_,.nil,s=>s
 | _,_,_,_,.cons r t,s=>.cons r (Vals.append t s)
theorem Vals.take:∀ {xs:List V} {us:List Value} (n:Nat),Vals xs us->Vals (xs.take n) (us.take n)
 | _,_,0,_=>.nil
 | _,_,_ + 1,.nil=>.nil
 | _,_,n + 1,.cons r t=>.cons r (Vals.take n t)
theorem Vals.drop:∀ {xs:List V} {us:List Value} (n:Nat),Vals xs us->Vals (xs.drop n) (us.drop n)
 | _,_,0,r=>r
 | _,_,_ + 1,.nil=>.nil
 | _,_,n + 1,.cons _ t=>Vals.drop n t
def RelO:Option V->Option Value->Prop
 | some v,some u=>RelV v u
 | none,none=>True
 | _,_=>False
def KV {κ:Type}:List (κ × V)->List (κ × Value)->Prop:=Paired fun (p:κ × V) (q:κ × Value)=>p.1 = q.1/\RelV p.2 q.2
def kV:Key->V
 | .inl i=>.int i
 | .inr x=>.str x
inductive HO where
 | lst (xs:List V)
 | tup (xs:List V)
 | dK (kvs:List (Key × V)) | dT (kvs:List (List Key × V))
 | set (S:Int->Bool) (n:Nat)
 | ins (C dx:Addr) (fs:List (Str × V))
 | own (x:Addr)
 | xd (fs:List (Str × V))
 | met (f x:Addr)
 | rng (lo hi:Int)
 | frz (o:Obj) (u:HO)
 | tbl (ps:Array Value)
 | ext (φ:Heap->Prop)
abbrev Hp:=Addr->Option HO
def upd (H:Hp) (a:Addr) (o:HO):Hp:=fun b=>if b = a then some o else H b
theorem Bl {H:Hp} {a:Addr} {o:HO}:upd H a o a = some o:=by unfold upd; rw [if_pos rfl]
theorem Bg {H:Hp} {a b:Addr} {o:HO} (h:b ≠ a):upd H a o b = H b:=by unfold upd; rw [if_neg h]
theorem Gh {H:Hp} {a:Addr} {o u:HO}:upd (upd H a o) a u = upd H a u:=by
 funext b; unfold upd; split <;> rfl
theorem Dl {H:Hp} {a b:Addr} {o u:HO} (h:H a = some o) (h':H b = some u) (d:o ≠ u):a ≠ b:=by
 intro e; subst e; rw [h] at h'; exact d (Option.some.inj h')
theorem Bm {H:Hp} {a b:Addr} {o:HO} (h:H a = some o) (h':H b = none):a ≠ b:=by
 intro e; subst e; rw [h] at h'; cases h'
section
variable (P:Program) (w:World)
def ObjOk (H:Hp) (h:Heap) (a:Addr):HO->Prop
 | .lst xs=>xs.length <= sizeLine/\∃ (its:List Value) (n:Nat),Vals xs its/\h.get? a = some { cls:=.type "list",data:=.seq its.toArray n }
 | .tup xs=>xs.length <= sizeLine/\∃ its:List Value,Vals xs its/\IsTup h a its.toArray
 | .dK kvs=>kvs.length <= sizeLine/\(a == sysModules) = false/\∃ vs,KV kvs vs/\h.DictOf (Dc P w) a vs
 | .dT kvs=>kvs.length <= sizeLine/\(a == sysModules) = false/\∃ xs:List (List Key × Addr × Value),
   Paired (fun (p:List Key × V) (q:List Key × Addr × Value)=>p.1 = q.1/\H q.2.1 = some (.tup (p.1.map kV))/\RelV p.2 q.2.2) kvs xs /\
   ∃ o es ep,h.get? a = some o/\o.ExactDict/\o.data = .dict es ep/\es.toList = xs.map (entryOfKey (tupleKind (Dc P w)))/\(xs.map (·.1)).Nodup
 | .set S n=>h.SetOf (intKind P w) a S n
 | .ins C dx fs=>H dx = some (.own a)/\fs.length <= 1000/\dx ≠ a/\h.get? a = some (PySem.W.instObj C dx) /\
   ∃ mA,h.Ns1 dx mA/\(∀ f,RelO (fs.lookup f) (mA f))/\PySem.Within mA (fs.map (·.1))
 | .own _=>∃ o,h.get? a = some o
 | .xd fs=>∃ mA,h.Ns1 a mA/\∀ f,RelO (fs.lookup f) (mA f)
 | .rng lo hi=>∃ t u v,h.get? a = some { cls:=.type "range",data:=.fields #[.int lo t,.int hi u,.int 1 v] }
 | .frz o u=>h.get? a = some o/\ObjOk H h a u
 | .tbl ps=>h.get? a = some { cls:=.none,data:=.fields ps }
 | .met f x=>h.get? a = some (PySem.W.methodObj (.ref f) (.ref x))
 | .ext φ=>φ h/\(∃ o,h.get? a = some o)/\∀ h1 h2:Heap,φ h1->(∀ o,h1.get? a = some o->h2.get? a = some o)->φ h2
def HOk (H:Hp) (h:Heap):Prop:=∀ a o,H a = some o->ObjOk P w H h a o
end
section
variable {P:Program} {w:World} {H H':Hp} {h h':Heap} {a:Addr} {o:HO}
theorem ObjOk.lt (x:ObjOk P w H h a o):a < h.objs.size:=by
 cases o with
 | lst xs=>obtain ⟨_,_,_,_,e⟩:=x; exact Heap.lt_size e
 | tup xs=>obtain ⟨_,_,_,p⟩:=x; exact p.lt
 | dK kvs=>obtain ⟨_,_,_,_,o,_,_,e,_⟩:=x; exact Heap.lt_size e
 | dT kvs=>obtain ⟨_,_,_,_,o,_,_,e,_⟩:=x; exact Heap.lt_size e
 | set S n=>obtain ⟨o,_,_,_,e,_⟩:=x; exact Heap.lt_size e
 | ins C dx fs=>obtain ⟨_,_,_,e,_⟩:=x; exact Heap.lt_size e
 | own y=>obtain ⟨_,e⟩:=x; exact Heap.lt_size e
 | xd fs=>obtain ⟨_,⟨_,_,_,e,_⟩,_⟩:=x; exact Heap.lt_size e
 | rng lo hi=>obtain ⟨_,_,_,e⟩:=x; exact Heap.lt_size e
 | frz ob u=>obtain ⟨e,_⟩:=x; exact Heap.lt_size e
 | tbl ps=>exact Heap.lt_size (show h.get? a = some _ from x)
 | met f y=>exact Heap.lt_size (show h.get? a = some _ from x)
 | ext φ=>obtain ⟨_,⟨_,e⟩,_⟩:=x; exact Heap.lt_size e
theorem Paired.mapP {α β:Type} {F G:α->β->Prop}:∀ {l₁:List α} {l₂:List β},Paired F l₁ l₂->(∀ a b,F a b->G a b)->Paired G l₁ l₂
 | _,_,.nil,_=>.nil
 | _,_,.cons r t,f=>.cons (f _ _ r) (Paired.mapP t f)
theorem ObjOk.stay (x:ObjOk P w H h a o) (k:∀ b u,(b = a\/H b = some (.own a))->h.get? b = some u->h'.get? b = some u)
  (ho:∀ b,H b = some (.own a)->H' b = some (.own a)) (ht:∀ b xs,H b = some (.tup xs)->H' b = some (.tup xs)):ObjOk P w H' h' a o:=by
 induction o with
 | lst xs=>obtain ⟨z,its,n,r,e⟩:=x; exact ⟨z,its,n,r,k _ _ (.inl rfl) e⟩
 | tup xs=>obtain ⟨z,its,r,ob,e,c⟩:=x; exact ⟨z,its,r,ob,k _ _ (.inl rfl) e,c⟩
 | dK kvs=>obtain ⟨z,y,vs,r,ob,es,ep,e,c⟩:=x; exact ⟨z,y,vs,r,ob,es,ep,k _ _ (.inl rfl) e,c⟩
 | dT kvs =>
  obtain ⟨z,y,xs,r,ob,es,ep,e,c⟩:=x
  exact ⟨z,y,xs,Paired.mapP r fun p q z=>⟨z.1,ht _ _ z.2.1,z.2.2⟩,ob,es,ep,k _ _ (.inl rfl) e,c⟩
 | set S n=>obtain ⟨ob,es,ep,t,e,c⟩:=x; exact ⟨ob,es,ep,t,k _ _ (.inl rfl) e,c⟩
 | ins C dx fs =>
  obtain ⟨d,z,ne,e,mA,⟨od,es,ep,e2,c⟩,r⟩:=x
  exact ⟨ho _ d,z,ne,k _ _ (.inl rfl) e,mA,⟨od,es,ep,k _ _ (.inr d) e2,c⟩,r⟩
 | own y=>obtain ⟨ob,e⟩:=x; exact ⟨ob,k _ _ (.inl rfl) e⟩
 | xd fs=>obtain ⟨mA,⟨od,es,ep,e,c⟩,r⟩:=x; exact ⟨mA,⟨od,es,ep,k _ _ (.inl rfl) e,c⟩,r⟩
 | rng lo hi=>obtain ⟨t,u,v,e⟩:=x; exact ⟨t,u,v,k _ _ (.inl rfl) e⟩
 | frz ob u ih=>obtain ⟨e,q⟩:=x; exact ⟨k _ _ (.inl rfl) e,ih q⟩
 | tbl ps =>
  have e:h.get? a = some { cls:=.none,data:=.fields ps }:=x
  show h'.get? a = some { cls:=.none,data:=.fields ps }
  exact k a _ (.inl rfl) e
 | met f y =>
  have e:h.get? a = some (PySem.W.methodObj (.ref f) (.ref y)):=x
  show h'.get? a = some (PySem.W.methodObj (.ref f) (.ref y))
  exact k a _ (.inl rfl) e
 | ext φ=>obtain ⟨p,⟨o,e⟩,st⟩:=x; exact ⟨st _ _ p fun o q=>k _ _ (.inl rfl) q,⟨o,k _ _ (.inl rfl) e⟩,st⟩
theorem HOk.lt (x:HOk P w H h) (e:H a = some o):a < h.objs.size:=(x a o e).lt
theorem HOk.fresh (x:HOk P w H h) (e:h.objs.size <= a):H a = none:=by
 cases q:H a with
 | none=>rfl
 | some u=>exact absurd (Nat.lt_of_lt_of_le (x.lt q) e) (Nat.lt_irrefl _)
theorem HOk.kept (x:HOk P w H h) (k:∀ b u,h.get? b = some u->h'.get? b = some u):HOk P w H h':=fun a o e =>
 (x a o e).stay (fun b u _ q=>k b u q) (fun _ q=>q) fun _ _ q=>q
theorem HOk.laid (x:HOk P w H h) (k:∀ b u,h.get? b = some u->h'.get? b = some u) (hp:h.objs.size <= a) (new:ObjOk P w (upd H a o) h' a o):HOk P w (upd H a o) h':=fun b u e=>by
 have hn:=x.fresh hp
 by_cases hb:b = a
 ·subst hb; rw [Bl] at e; cases e; exact new
 ·rw [Bg hb] at e
  exact (x b u e).stay (fun c v _ q=>k c v q) (fun c q=>by rw [Bg (Bm q hn)]; exact q) fun c xs q=>by rw [Bg (Bm q hn)]; exact q
end
def Rd (H:Hp) (a:Addr) (u:HO):Prop:=H a = some u\/∃ o,H a = some (.frz o u)
theorem Rd.ok {P:Program} {w:World} {H:Hp} {h:Heap} {a:Addr} {u:HO} (r:Rd H a u) (x:HOk P w H h):ObjOk P w H h a u:=by
 rcases r with r | ⟨o,r⟩
 ·exact x a u r
 ·obtain ⟨_,q⟩:=x a _ r
  exact q
def Mut:Option HO->Prop
 | some (.lst _)=>True
 | some (.dK _)=>True
 | some (.dT _)=>True
 | some (.set _ _)=>True
 | some (.ins _ _ _)=>True
 | some (.ext _)=>True
 | _=>False
section
variable {P:Program} {w:World} {H:Hp} {h h':Heap} {x e:Addr} {o':HO}
theorem HOk.write (ok:HOk P w H h) (mu:Mut (H x)) (he:e = x\/H e = some (.own x)) (k:∀ b u,b ≠ e->h.get? b = some u->h'.get? b = some u) (heo:∃ u,h'.get? e = some u)
  (new:ObjOk P w (upd H x o') h' x o'):HOk P w (upd H x o') h':=fun b u q=>by
 have nown:∀ c y,H c = some (.own y)->c ≠ x:=fun c y r z=>by subst z; rw [r] at mu; exact mu
 have ntup:∀ c xs,H c = some (.tup xs)->c ≠ x:=fun c xs r z=>by subst z; rw [r] at mu; exact mu
 by_cases hb:b = x
 ·subst hb; rw [Bl] at q; cases q; exact new
 ·rw [Bg hb] at q
  by_cases hbe:b = e
  ·have q':H b = some (.own x):=by
    rcases he with z | z
    ·exact absurd (hbe.trans z) hb
    ·rw [hbe]; exact z
   rw [q] at q'; cases q'
   obtain ⟨v,hv⟩:=heo
   exact ⟨v,by rw [hbe]; exact hv⟩
  ·refine (ok b u q).stay (fun c v hc r=>k c v ?_ r) (fun c r=>by rw [Bg (nown c b r)]; exact r) fun c xs r=>by rw [Bg (ntup c xs r)]; exact r
   rcases hc with rfl | hc
   ·exact hbe
   ·rintro rfl
    rcases he with z | z
    ·exact nown c b hc z
    ·rw [hc] at z; cases z; exact hb rfl
end
structure Un (fs ex:List Addr) (H H':Hp) (h h':Heap):Prop where
 keep:∀ b o,h.get? b = some o->H b = none->b ∉ fs->b ∉ ex->h'.get? b = some o
 slot:∀ b o,h.get? b = some o->H b = none->b ∈ fs->b ∉ ex->∃ sl,h'.get? b = some { o with slots:=sl }
 free:∀ b o,h.get? b = some o->H b = none->b ∉ ex->H' b = none
 there:∀ b o,h.get? b = some o->b ∉ ex->∃ o',h'.get? b = some o'
 tups:∀ b xs,H b = some (.tup xs)->H' b = some (.tup xs)
 frzs:∀ b o u,H b = some (.frz o u)->H' b = some (.frz o u)
 tbls:∀ b ps,H b = some (.tbl ps)->∃ more,H' b = some (.tbl (ps ++ more))
section
variable {fs fs' ex ex':List Addr} {H H1 H2:Hp} {h h1 h2 h':Heap} {a x e:Addr} {o:HO}
theorem Un.any (u:Un fs ex H H1 h h1) {b:Addr} {ob:Obj} (q:h.get? b = some ob) (n:H b = none) (hx:b ∉ ex):∃ sl,h1.get? b = some { ob with slots:=sl }:=by
 by_cases hb:b ∈ fs
 ·exact u.slot b ob q n hb hx
 ·exact ⟨ob.slots,u.keep b ob q n hb hx⟩
theorem Un.kept (k:∀ b u,h.get? b = some u->h'.get? b = some u):Un fs ex H H h h' :=
 ⟨fun b ob q _ _ _=>k b ob q,fun b ob q _ _ _=>⟨ob.slots,k b ob q⟩,fun _ _ _ n _=>n,fun b ob q _=>⟨ob,k b ob q⟩,fun _ _ q=>q,fun _ _ _ q=>q,fun _ ps q=>⟨#[],by rw [q]; simp⟩⟩
theorem Un.refl:Un fs ex H H h h:=Un.kept fun _ _ q=>q
theorem Un.laid (k:∀ b u,h.get? b = some u->h'.get? b = some u) (hp:h.objs.size <= a) (hn:H a = none):Un fs ex H (upd H a o) h h' where
 keep:=fun b u q _ _ _=>k b u q
 slot:=fun b u q _ _ _=>⟨u.slots,k b u q⟩
 free:=fun b u q n _=>by rw [Bg (Nat.ne_of_lt (Nat.lt_of_lt_of_le (Heap.lt_size q) hp))]; exact n
 there:=fun b u q _=>⟨u,k b u q⟩
 tups:=fun b xs q=>by rw [Bg (Bm q hn)]; exact q
 frzs:=fun b u xs q=>by rw [Bg (Bm q hn)]; exact q
 tbls:=fun b ps q=>⟨#[],by rw [Bg (Bm q hn),q]; simp⟩
theorem Un.write (mu:Mut (H x)) (he:e = x\/H e = some (.own x)) (k:∀ b u,b ≠ e->h.get? b = some u->h'.get? b = some u) (heo:∃ u,h'.get? e = some u):Un fs ex H (upd H x o) h h':=by
 have hx:∀ b,H b = none->b ≠ x:=fun b n z=>by subst z; rw [n] at mu; exact mu
 have hb:∀ b,H b = none->b ≠ e:=fun b n z=>by
  subst z
  rcases he with r | r
  ·exact hx b n r
  ·rw [n] at r; cases r
 have hm:∀ b u,H b = some u->¬ Mut (some u)->b ≠ x:=fun b u q nm z=>by subst z; rw [q] at mu; exact nm mu
 refine ⟨fun b u q n _ _=>k b u (hb b n) q,fun b u q n _ _=>⟨u.slots,k b u (hb b n) q⟩,fun b u q n _=>by rw [Bg (hx b n)]; exact n,fun b u q _=>?_,
  fun b xs q=>by rw [Bg (hm b _ q fun z=>z)]; exact q,fun b u xs q=>by rw [Bg (hm b _ q fun z=>z)]; exact q,fun b ps q=>⟨#[],by rw [Bg (hm b _ q fun z=>z),q]; simp⟩⟩
 by_cases hbe:b = e
 ·subst hbe; exact heo
 ·exact ⟨u,k b u hbe q⟩
end
def trk (h:Heap) (H:Hp):List Addr:=(List.range h.objs.size).filter fun a=>(H a).isSome
def Rj (h:Heap) (H:Hp):Heap:=PySem.W.hideAll h (trk h H)
theorem AdK (h:Heap) (H:Hp):(Rj h H).objs.size = h.objs.size:=PySem.W.hideAll_size _ _
theorem Aeo {h:Heap} {H:Hp} {b:Addr} {o:Obj} (e:h.get? b = some o) (n:H b = none):(Rj h H).get? b = some o :=
 PySem.W.hideAll_get _ e fun hm=>by
  have q:(H b).isSome = true:=(List.mem_filter.mp hm).2
  rw [n] at q; simp at q
theorem AgT {h:Heap} {H:Hp} {b:Addr} {o:Obj} (e:(Rj h H).get? b = some o):h.get? b = some o/\H b = none:=by
 have e':h.get? b = some o:=PySem.W.of_hideAll (trk h H) e
 refine ⟨e',?_⟩
 cases q:H b with
 | none=>rfl
 | some x =>
  have hm:b ∈ trk h H:=List.mem_filter.mpr ⟨List.mem_range.mpr (Heap.lt_size e'),by simp [q]⟩
  have z:(Rj h H).get? b = none:=PySem.W.hideAll_none (trk h H) hm
  rw [z] at e; cases e
end L2
namespace L2
open PySem PySem.Spec PyProof.Rows
structure Mod (K:PySem.W.Frag) (mg:Str->Option Value) (base:Heap):Prop where
 kin:K.In base
 glob:base.Ns mainGlobals mg
 blt:∃ mb,base.Ns builtinsNs mb/\∀ x:Str,x ≠ "__name__"->mb x = bootBuiltins x
 nolimit:base.NoLimit
structure Cx where
 prog:Program
 w:World
 K:PySem.W.Frag
 mg:Str->Option Value
 base:Heap
 A:Around
 N:List Str
 s₀:Shared
 H₀:Hp
 env:Env
 outer:List Env
 stack:List Env
 ex:List Addr
 fn:Str->Bool
 calm:Bool
 pn:List (Addr × Obj)
 xe:Value->Shared->Prop
def frs (l:List Env):List Addr:=l.filterMap (·.frame)
abbrev Cx.fs (X:Cx):List Addr:=frs X.outer
def Vis (sc:Scope) (x:Str):Prop:=sc.names.lookup x = some .local\/sc.names.lookup x = some .cell\/sc.names.lookup x = some .free
def Loc (sc:Scope) (x:Str):Prop:=sc.names.lookup x = some .local\/sc.names.lookup x = some .cell
def Al5 (env:Env) (h:Heap) (m:Str->Option Value) (x:Str) (u:Value):Prop :=
 (env.kindOf x = some .local/\m x = some u)\/((env.kindOf x = some .cell\/env.kindOf x = some .free)/\∃ c,env.cells.lookup x = some c/\h.IsCell c (some u))
structure Cx.Ok (X:Cx):Prop where
 mod:Mod X.K X.mg X.base
 kind:X.env.scope.kind = .function
 glob:X.env.globals = mainGlobals
 blt:X.env.builtins = builtinsNs
 above:X.s₀.heap.objs.size <= X.env.locals
 inj:∀ x y c,X.env.cells.lookup x = some c->X.env.cells.lookup y = some c->x = y
 has:∀ x,(X.env.kindOf x = some .cell\/X.env.kindOf x = some .free)->∃ c,X.env.cells.lookup x = some c
 cab:∀ x c,X.fn x = true->X.env.cells.lookup x = some c->X.s₀.heap.objs.size <= c
 hd:X.calm = true->X.A.handled = none
 frames:X.A.frames = some X.stack
 stk:X.stack = X.outer\/(X.stack = X.env :: X.outer/\X.env.frame = some X.env.locals)
 exf:∀ b ∈ X.ex,b ≠ X.env.locals/\∀ x c,X.env.cells.lookup x = some c->c ≠ b
 bs:∀ b o,X.base.get? b = some o->X.s₀.heap.get? b = some o/\X.H₀ b = none
 bsz:X.base.objs.size <= X.s₀.heap.objs.size
 noex:∀ b o,X.base.get? b = some o->b ∉ X.ex
 exfs:∀ b ∈ X.ex,b ∉ X.fs
 funs:X.s₀.heap.FunFrames X.base X.outer
 frf:∀ b ∈ X.fs,X.H₀ b = none
structure Inv (X:Cx) (pins:List (Addr × Obj)) (σ:List (Option V)) (H:Hp) (s:Shared):Prop where
 ok:X.Ok
 os:s.os = X.s₀.os
 bare:AllBare s.gens
 base:Un X.fs X.ex X.H₀ H X.s₀.heap s.heap
 loc:∃ m,s.heap.Ns X.env.locals m/\∀ (i:Nat) (x:Str) (v:V),X.N[i]? = some x->σ[i]? = some (some v)->Vis X.env.scope x->∃ u,RelV v u/\Al5 X.env s.heap m x u
 cell:∀ x c,X.env.cells.lookup x = some c->∃ v,s.heap.IsCell c v
 free:H X.env.locals = none
 freeC:∀ x c,X.env.cells.lookup x = some c->H c = none
 pin:∀ p ∈ X.pn ++ pins,s.heap.get? p.1 = some p.2/\H p.1 = none/\p.1 ≠ X.env.locals/\p.1 ∉ X.fs/\∀ v,p.2.data ≠ .cell v
 hok:HOk X.prog X.w H s.heap
 len:σ.length = X.N.length
section
variable {X:Cx} {pins:List (Addr × Obj)} {σ:List (Option V)} {H H':Hp} {s:Shared} {h':Heap}
theorem Cx.Ok.nofr (ok:X.Ok) {b:Addr} {o:Obj} (e:X.base.get? b = some o):b ∉ X.fs:=fun hb=>by
 have:=(ok.funs.mem hb).1
 rw [e] at this; cases this
theorem Inv.bs (I:Inv X pins σ H s):∀ b o,X.base.get? b = some o->s.heap.get? b = some o/\H b = none:=fun b o e =>
 ⟨I.base.keep b o (I.ok.bs b o e).1 (I.ok.bs b o e).2 (I.ok.nofr e) (I.ok.noex b o e),I.base.free b o (I.ok.bs b o e).1 (I.ok.bs b o e).2 (I.ok.noex b o e)⟩
theorem Inv.bk (I:Inv X pins σ H s):∀ b o,X.base.get? b = some o->s.heap.get? b = some o:=fun b o e=>(I.bs b o e).1
theorem Inv.mod (I:Inv X pins σ H s):Mod X.K X.mg X.base:=I.ok.mod
theorem Inv.kIn (I:Inv X pins σ H s):X.K.In s.heap:=I.ok.mod.kin.keeps I.bk
theorem Inv.lt (I:Inv X pins σ H s):X.env.locals < s.heap.objs.size:=let ⟨_,hn,_⟩:=I.loc; hn.lt
theorem Inv.sz (I:Inv X pins σ H s):X.s₀.heap.objs.size <= s.heap.objs.size:=Nat.le_trans I.ok.above (Nat.le_of_lt I.lt)
theorem Inv.nofs (I:Inv X pins σ H s) {a:Addr} (h:s.heap.objs.size <= a):a ∉ X.fs:=fun hb=>by
 obtain ⟨_,o,ho,_⟩:=I.ok.funs.mem hb
 exact absurd (Nat.lt_of_lt_of_le (Heap.lt_size ho) (Nat.le_trans I.sz h)) (Nat.lt_irrefl _)
theorem Inv.cne (I:Inv X pins σ H s):∀ x c,X.env.cells.lookup x = some c->c ≠ X.env.locals:=fun x c e z=>by
 obtain ⟨v,o,ho,hd⟩:=I.cell x c e
 obtain ⟨m,⟨o',es,ep,ho',hd',_⟩,_⟩:=I.loc
 rw [z,ho'] at ho; cases ho; rw [hd'] at hd; cases hd
theorem Inv.funs (I:Inv X pins σ H s):s.heap.FunFrames X.base X.outer:=by
 have all:∀ (l:List Env),(∀ b ∈ frs l,b ∈ X.fs)->X.s₀.heap.FunFrames X.base l->s.heap.FunFrames X.base l:=by
  intro l
  induction l with
  | nil=>intro _ _; trivial
  | cons env r ih =>
   intro hs hl
   obtain ⟨hk,⟨L,o,hf,hn,ho,hd⟩,hr⟩:=hl
   have hL:L ∈ X.fs:=hs L (by unfold frs; rw [List.filterMap_cons,hf]; exact List.mem_cons_self)
   obtain ⟨sl,e⟩:=I.base.slot L o ho (I.ok.frf L hL) hL fun z=>I.ok.exfs L z hL
   exact ⟨hk,⟨L,_,hf,hn,e,hd⟩,ih (fun b hb=>hs b (by unfold frs; rw [List.filterMap_cons,hf]; exact List.mem_cons_of_mem _ hb)) hr⟩
 exact all X.outer (fun _ hb=>hb) I.ok.funs
theorem Inv.stack (I:Inv X pins σ H s):s.heap.FunFrames X.base X.stack:=by
 rcases I.ok.stk with e | ⟨e,hf⟩
 ·rw [e]; exact I.funs
 ·rw [e]
  obtain ⟨m,hn,_⟩:=I.loc
  refine .cons (by rw [I.ok.kind]; decide) hf hn ?_ I.funs
  exact Heap.get?_none_of_le (Nat.le_trans I.ok.bsz I.ok.above)
theorem Inv.stkSub (I:Inv X pins σ H s):∀ b ∈ frs X.stack,b ∈ X.env.locals :: X.fs:=fun b hb=>by
 rcases I.ok.stk with e | ⟨e,hf⟩
 ·rw [e] at hb; exact List.mem_cons_of_mem _ hb
 ·rw [e] at hb
  unfold frs at hb
  rw [List.filterMap_cons,hf] at hb
  exact hb
theorem Inv.stkFree (I:Inv X pins σ H s):∀ b ∈ frs X.stack,H b = none:=fun b hb=>by
 rcases List.mem_cons.mp (I.stkSub b hb) with e | hb
 ·rw [e]; exact I.free
 ·obtain ⟨_,o,ho,_⟩:=I.ok.funs.mem hb
  exact I.base.free b o ho (I.ok.frf b hb) fun z=>I.ok.exfs b z hb
theorem Inv.step {g':Array GenState} {t':Nat} {d':Drawn} {ch:List Addr} (I:Inv X pins σ H s)
  (hch:∀ b ∈ ch,(b ∈ X.ex\/X.s₀.heap.objs.size <= b)/\b ≠ X.env.locals/\(∀ x c,X.env.cells.lookup x = some c->c ≠ b)/\∀ p ∈ X.pn ++ pins,p.1 ≠ b)
  (keep:∀ b o,b ≠ X.env.locals->b ∉ X.fs->b ∉ ch->s.heap.get? b = some o->H b = none->h'.get? b = some o)
  (slot:∀ b o,b ≠ X.env.locals->b ∈ X.fs->b ∉ ch->s.heap.get? b = some o->H b = none->∃ sl,h'.get? b = some { o with slots:=sl }) (free:∀ b o,b ∉ ch->s.heap.get? b = some o->H b = none->H' b = none)
  (there:∀ b o,b ∉ ch->s.heap.get? b = some o->∃ o',h'.get? b = some o')
  (tups:∀ b xs,H b = some (.tup xs)->H' b = some (.tup xs)) (frzs:∀ b o u,H b = some (.frz o u)->H' b = some (.frz o u)) (tbls:∀ b ps,H b = some (.tbl ps)->∃ more,H' b = some (.tbl (ps ++ more)))
  (ns:∀ m,s.heap.Ns X.env.locals m->h'.Ns X.env.locals m) (hok:HOk X.prog X.w H' h') (hg:AllBare g') :
  Inv X pins σ H' { s with heap:=h',gens:=g',drawn:=d',toks:=t' }:=by
 have neL:∀ b o,X.s₀.heap.get? b = some o->b ≠ X.env.locals:=fun b o e=>Nat.ne_of_lt (Nat.lt_of_lt_of_le (Heap.lt_size e) I.ok.above)
 have neC:∀ b o,X.s₀.heap.get? b = some o->b ∉ X.ex->b ∉ ch:=fun b o e hx hb=>by
  rcases (hch b hb).1 with z | z
  ·exact hx z
  ·exact absurd (Nat.lt_of_lt_of_le (Heap.lt_size e) z) (Nat.lt_irrefl _)
 have cellK:∀ x c,X.env.cells.lookup x = some c->∀ v,s.heap.IsCell c v->h'.IsCell c v:=fun x c e v ⟨o,ho,hd⟩=>by
  have nch:c ∉ ch:=fun z=>(hch c z).2.2.1 x c e rfl
  by_cases hc:c ∈ X.fs
  ·obtain ⟨sl,q⟩:=slot c o (I.cne x c e) hc nch ho (I.freeC x c e)
   exact ⟨_,q,hd⟩
  ·exact ⟨o,keep c o (I.cne x c e) hc nch ho (I.freeC x c e),hd⟩
 refine ⟨I.ok,I.os,hg,⟨fun b o e n hb hx=>?_,fun b o e n hb hx=>?_,fun b o e n hx=>?_,fun b o e hx=>?_,fun b xs e=>tups b xs (I.base.tups b xs e),fun b o xs e=>frzs b o xs (I.base.frzs b o xs e),fun b ps e=>?_⟩,?_,fun x c e=>?_,?_,fun x c e=>?_,fun p hp=>?_,hok,I.len⟩
 ·exact keep b o (neL b o e) hb (neC b o e hx) (I.base.keep b o e n hb hx) (I.base.free b o e n hx)
 ·obtain ⟨sl,e1⟩:=I.base.slot b o e n hb hx
  obtain ⟨sl',e2⟩:=slot b _ (neL b o e) hb (neC b o e hx) e1 (I.base.free b o e n hx)
  exact ⟨sl',e2⟩
 ·obtain ⟨o',e1⟩:=I.base.there b o e hx
  exact free b o' (neC b o e hx) e1 (I.base.free b o e n hx)
 ·obtain ⟨o',e1⟩:=I.base.there b o e hx
  exact there b o' (neC b o e hx) e1
 ·obtain ⟨m1,e1⟩:=I.base.tbls b ps e
  obtain ⟨m2,e2⟩:=tbls b _ e1
  exact ⟨m1 ++ m2,by rw [e2,Array.append_assoc]⟩
 ·obtain ⟨m,hn,hl⟩:=I.loc
  refine ⟨m,ns m hn,fun i x v e1 e2 e3=>?_⟩
  obtain ⟨u,r,l⟩:=hl i x v e1 e2 e3
  refine ⟨u,r,?_⟩
  rcases l with l | ⟨k,c,e,z⟩
  ·exact .inl l
  ·exact .inr ⟨k,c,e,cellK x c e _ z⟩
 ·obtain ⟨v,z⟩:=I.cell x c e
  exact ⟨v,cellK x c e v z⟩
 ·obtain ⟨m,⟨o,_,_,ho,_⟩,_⟩:=I.loc
  exact free _ o (fun z=>(hch _ z).2.1 rfl) ho I.free
 ·obtain ⟨v,o,ho,hd⟩:=I.cell x c e
  exact free c o (fun z=>(hch c z).2.2.1 x c e rfl) ho (I.freeC x c e)
 ·obtain ⟨e,n,ne,nf,d⟩:=I.pin p hp
  have nch:p.1 ∉ ch:=fun z=>(hch p.1 z).2.2.2 p hp rfl
  exact ⟨keep p.1 p.2 ne nf nch e n,free p.1 p.2 nch e n,ne,nf,d⟩
theorem Inv.un {t':Nat} (I:Inv X pins σ H s) (u:Un X.fs [] H H' s.heap h') (hok:HOk X.prog X.w H' h'):Inv X pins σ H' { s with heap:=h',toks:=t' }:=by
 obtain ⟨m,⟨o,es,ep,ho,r⟩,_⟩:=id I.loc
 obtain ⟨sl,hL⟩:=u.any ho I.free (by simp)
 exact I.step (g':=s.gens) (d':=s.drawn) (ch:=[]) (fun _ z=>nomatch z) (fun b o _ hb _ e n=>u.keep b o e n hb (by simp)) (fun b o _ hb _ e n=>u.slot b o e n hb (by simp)) (fun b o _ e n=>u.free b o e n (by simp)) (fun b o _ e=>u.there b o e (by simp)) u.tups u.frzs u.tbls (fun m' hm=>by
  obtain ⟨o',es',ep',ho',r'⟩:=hm
  rw [ho] at ho'; cases ho'
  exact ⟨_,es',ep',hL,r'⟩) hok I.bare
theorem Inv.call {g':Array GenState} {t':Nat} {d':Drawn} {ch:List Addr} (I:Inv X pins σ H s) (u:Un (frs X.stack) ch H H' s.heap h') (hok:HOk X.prog X.w H' h') (hg:AllBare g')
  (hch:∀ b ∈ ch,(b ∈ X.ex\/X.s₀.heap.objs.size <= b)/\b ≠ X.env.locals/\(∀ x c,X.env.cells.lookup x = some c->c ≠ b)/\∀ p ∈ X.pn ++ pins,p.1 ≠ b) :
  Inv X pins σ H' { s with heap:=h',gens:=g',drawn:=d',toks:=t' }:=by
 obtain ⟨m,⟨o,es,ep,ho,r⟩,_⟩:=id I.loc
 obtain ⟨sl,hL⟩:=u.any ho I.free fun z=>(hch _ z).2.1 rfl
 exact I.step (ch:=ch) hch (fun b o hL hb hc e n=>u.keep b o e n (fun z=>(List.mem_cons.mp (I.stkSub b z)).elim hL hb) hc) (fun b o _ _ hc e n=>u.any e n hc) (fun b o hc e n=>u.free b o e n hc) (fun b o hc e=>u.there b o e hc) u.tups u.frzs u.tbls (fun m' hm=>by
  obtain ⟨o',es',ep',ho',r'⟩:=hm
  rw [ho] at ho'; cases ho'
  exact ⟨_,es',ep',hL,r'⟩) hok hg
theorem Inv.turned {t':Nat} {it:Addr} (I:Inv X pins σ H s) (k:∀ b o,b ≠ it->s.heap.get? b = some o->h'.get? b = some o) (hn:H it = none) (hL:it ≠ X.env.locals)
  (h1:it ∈ X.ex\/X.s₀.heap.objs.size <= it) (h2:∀ x c,X.env.cells.lookup x = some c->c ≠ it) (h3:∀ p ∈ X.pn ++ pins,p.1 ≠ it):Inv X pins σ H { s with heap:=h',toks:=t' }:=by
 have nit:∀ b u,H b = some u->b ≠ it:=fun b u e z=>by rw [z,hn] at e; cases e
 refine I.step (g':=s.gens) (d':=s.drawn) (ch:=[it]) (fun b hb=>?_) (fun b o _ _ hc e _=>k b o (fun z=>hc (by simp [z])) e) (fun b o _ _ hc e _=>⟨o.slots,k b o (fun z=>hc (by simp [z])) e⟩) (fun _ _ _ _ n=>n)
  (fun b o hc e=>⟨o,k b o (fun z=>hc (by simp [z])) e⟩) (fun _ _ e=>e) (fun _ _ _ e=>e) (fun b ps e=>⟨#[],by rw [e]; simp⟩) (fun m hm=>?_) (fun b u e=>?_) I.bare
 ·have e:b = it:=by simpa using hb
  subst e
  exact ⟨h1,hL,h2,h3⟩
 ·obtain ⟨o,es,ep,ho,r⟩:=hm
  exact ⟨o,es,ep,k _ o (Ne.symm hL) ho,r⟩
 ·refine (I.hok b u e).stay (fun c v hc q=>k c v ?_ q) (fun _ q=>q) fun _ _ q=>q
  rcases hc with z | z
  ·rw [z]; exact nit b u e
  ·exact nit c _ z
theorem Inv.tok (I:Inv X pins σ H s) (t:Nat):Inv X pins σ H { s with toks:=t }:=I.un (h':=s.heap) (t':=t) Un.refl I.hok
theorem Inv.kept {t':Nat} (I:Inv X pins σ H s) (k:∀ b u,s.heap.get? b = some u->h'.get? b = some u):Inv X pins σ H { s with heap:=h',toks:=t' }:=I.un (Un.kept k) (I.hok.kept k)
theorem Inv.laid {a:Addr} {o:HO} {t':Nat} (I:Inv X pins σ H s) (k:∀ b u,s.heap.get? b = some u->h'.get? b = some u) (hp:s.heap.objs.size <= a) (new:ObjOk X.prog X.w (upd H a o) h' a o) :
  Inv X pins σ (upd H a o) { s with heap:=h',toks:=t' }:=I.un (Un.laid k hp (I.hok.fresh hp)) (I.hok.laid k hp new)
theorem Inv.write {x e:Addr} {o:HO} {t':Nat} (I:Inv X pins σ H s) (mu:Mut (H x)) (he:e = x\/H e = some (.own x)) (k:∀ b u,b ≠ e->s.heap.get? b = some u->h'.get? b = some u) (heo:∃ u,h'.get? e = some u)
  (new:ObjOk X.prog X.w (upd H x o) h' x o):Inv X pins σ (upd H x o) { s with heap:=h',toks:=t' }:=I.un (Un.write mu he k heo) (I.hok.write mu he k heo new)
theorem Inv.weak {σ':List (Option V)} (I:Inv X pins σ H s) (hl:σ'.length = σ.length) (w:∀ (i:Nat) v,σ'[i]? = some (some v)->σ[i]? = some (some v)):Inv X pins σ' H s :=
 ⟨I.ok,I.os,I.bare,I.base,let ⟨m,hn,hl'⟩:=I.loc; ⟨m,hn,fun i x v e1 e2 e3=>hl' i x v e1 (w i v e2) e3⟩,I.cell,I.free,I.freeC,I.pin,I.hok,hl.trans I.len⟩
theorem Inv.pins_of {pins':List (Addr × Obj)} (I:Inv X pins σ H s) (h:∀ p ∈ pins',s.heap.get? p.1 = some p.2/\H p.1 = none/\p.1 ≠ X.env.locals/\p.1 ∉ X.fs/\∀ v,p.2.data ≠ .cell v):Inv X pins' σ H s :=
 ⟨I.ok,I.os,I.bare,I.base,I.loc,I.cell,I.free,I.freeC,fun p hp=>(List.mem_append.mp hp).elim (fun z=>I.pin p (List.mem_append_left _ z)) (h p),I.hok,I.len⟩
theorem Jt {N:List Str} (hN:N.Nodup) {i j:Nat} {x:Str} (a:N[i]? = some x) (b:N[j]? = some x):i = j:=by
 obtain ⟨h1,e1⟩:=List.getElem?_eq_some_iff.mp a
 obtain ⟨h2,e2⟩:=List.getElem?_eq_some_iff.mp b
 exact (List.getElem_inj hN).mp (e1.trans e2.symm)
theorem Wr {M:Model} {A:Around} {E:Value->Shared->Prop} {i:Nat} {x:Str} {v:V} {u:Value} {Q:Unit->Shared->Prop} (I:Inv X pins σ H s) (hN:X.N.Nodup) (hi:X.N[i]? = some x) (hx:Loc X.env.scope x) (r:RelV v u)
  (h:∀ s',Inv X pins (σ.set i (some v)) H s'->(∃ a,Heap.SameBut a s.heap s'.heap/\(a = X.env.locals\/X.env.cells.lookup x = some a))->Q () s') (hf:X.fn x = true\/X.env.scope.names.lookup x = some .local:=by first | exact .inl rfl | exact .inr rfl | assumption):wpAny M A (storeName X.env x u) Q E s:=by
 obtain ⟨m,hn,hl⟩:=id I.loc
 have hcls:(X.env.scope.kind == .class || (X.env.scope.kind == .module && X.env.locals != X.env.globals)) = false:=by rw [I.ok.kind]; rfl
 have hiσ:i < σ.length:=by rw [I.len]; exact (List.getElem?_eq_some_iff.mp hi).1
 have cne:=I.cne
 have tracked:∀ {a:Addr} {h':Heap},(∃ o,s.heap.get? a = some o/\H a = none)->Heap.SameBut a s.heap h'->HOk X.prog X.w H h':=fun {a h'} ha hs b ob e=>by
  obtain ⟨_,_,hfree⟩:=ha
  refine (I.hok b ob e).stay (fun c w' hc q=>(hs.2 c ?_).trans q) (fun _ q=>q) fun _ _ q=>q
  rintro rfl
  rcases hc with rfl | hc
  ·rw [hfree] at e; cases e
  ·rw [hfree] at hc; cases hc
 rcases hx with hk | hk
 ·refine wpAny_storeName_local hk hn (fun h' hn' hs=>?_) hcls
  obtain ⟨oL,_,_,hoL,_⟩:=id hn
  refine h _ ⟨I.ok,I.os,I.bare,⟨fun b o e n hb hx=>?_,fun b o e n hb hx=>?_,I.base.free,fun b o e hx=>?_,I.base.tups,I.base.frzs,I.base.tbls⟩,⟨_,hn',fun j y v' e1 e2 e3=>?_⟩,fun y c e=>?_,I.free,I.freeC,fun p hp=>?_,tracked ⟨oL,hoL,I.free⟩ hs,by simpa using I.len⟩ ⟨_,hs,.inl rfl⟩
  ·exact (hs.2 b (Nat.ne_of_lt (Nat.lt_of_lt_of_le (Heap.lt_size e) I.ok.above))).trans (I.base.keep b o e n hb hx)
  ·obtain ⟨sl,e1⟩:=I.base.slot b o e n hb hx
   exact ⟨sl,(hs.2 b (Nat.ne_of_lt (Nat.lt_of_lt_of_le (Heap.lt_size e) I.ok.above))).trans e1⟩
  ·obtain ⟨o',e1⟩:=I.base.there b o e hx
   exact ⟨o',(hs.2 b (Nat.ne_of_lt (Nat.lt_of_lt_of_le (Heap.lt_size e) I.ok.above))).trans e1⟩
  ·by_cases hj:j = i
   ·subst hj
    rw [hi] at e1; cases e1
    rw [List.getElem?_set_self hiσ] at e2
    cases e2
    exact ⟨u,r,.inl ⟨hk,by simp⟩⟩
   ·rw [List.getElem?_set_ne (Ne.symm hj)] at e2
    obtain ⟨u',r',q⟩:=hl j y v' e1 e2 e3
    refine ⟨u',r',?_⟩
    rcases q with ⟨k,e⟩ | ⟨k,c,e,z⟩
    ·refine .inl ⟨k,?_⟩
     have:y ≠ x:=fun e=>hj (Jt hN e1 (e ▸ hi))
     simp [this,e]
    ·exact .inr ⟨k,c,e,z.sameBut hs (cne y c e)⟩
  ·obtain ⟨w',z⟩:=I.cell y c e
   exact ⟨w',z.sameBut hs (cne y c e)⟩
  ·obtain ⟨e,n,ne,nf,d⟩:=I.pin p hp
   exact ⟨(hs.2 p.1 ne).trans e,n,ne,nf,d⟩
 ·have hfn:X.fn x = true:=by
   rcases hf with z | z
   ·exact z
   ·rw [z] at hk; cases hk
  obtain ⟨c,hc⟩:=I.ok.has x (.inl hk)
  obtain ⟨w',z⟩:=I.cell x c hc
  refine wpAny_storeName_cell I.ok.kind hk hc z (fun h' hc' hs=>?_)
  obtain ⟨oc,hoc,hocd⟩:=id z
  refine h { s with heap:=h' } ⟨I.ok,I.os,I.bare,⟨fun b o e n hb hx=>?_,fun b o e n hb hx=>?_,I.base.free,fun b o e hx=>?_,I.base.tups,I.base.frzs,I.base.tbls⟩,⟨m,hn.sameBut hs (Ne.symm (cne x c hc)),fun j y v' e1 e2 e3=>?_⟩,fun y c' e=>?_,I.free,I.freeC,fun p hp=>?_,tracked ⟨oc,hoc,I.freeC x c hc⟩ hs,by simpa using I.len⟩ ⟨c,hs,.inr hc⟩
  ·exact (hs.2 b (Nat.ne_of_lt (Nat.lt_of_lt_of_le (Heap.lt_size e) (I.ok.cab x c hfn hc)))).trans (I.base.keep b o e n hb hx)
  ·obtain ⟨sl,e1⟩:=I.base.slot b o e n hb hx
   exact ⟨sl,(hs.2 b (Nat.ne_of_lt (Nat.lt_of_lt_of_le (Heap.lt_size e) (I.ok.cab x c hfn hc)))).trans e1⟩
  ·obtain ⟨o',e1⟩:=I.base.there b o e hx
   exact ⟨o',(hs.2 b (Nat.ne_of_lt (Nat.lt_of_lt_of_le (Heap.lt_size e) (I.ok.cab x c hfn hc)))).trans e1⟩
  ·by_cases hj:j = i
   ·subst hj
    rw [hi] at e1; cases e1
    rw [List.getElem?_set_self hiσ] at e2
    cases e2
    exact ⟨u,r,.inr ⟨.inl hk,c,hc,hc'⟩⟩
   ·rw [List.getElem?_set_ne (Ne.symm hj)] at e2
    obtain ⟨u',r',q⟩:=hl j y v' e1 e2 e3
    refine ⟨u',r',?_⟩
    rcases q with q | ⟨k,c',e,z'⟩
    ·exact .inl q
    ·refine .inr ⟨k,c',e,z'.sameBut hs ?_⟩
     rintro rfl
     exact hj (Jt hN e1 (I.ok.inj _ _ _ e hc ▸ hi))
  ·by_cases hcc:c' = c
   ·subst hcc; exact ⟨_,hc'⟩
   ·obtain ⟨w2,z2⟩:=I.cell y c' e
    exact ⟨w2,z2.sameBut hs hcc⟩
  ·obtain ⟨e,n,ne,nf,d⟩:=I.pin p hp
   refine ⟨(hs.2 p.1 ?_).trans e,n,ne,nf,d⟩
   intro q
   rw [q,hoc] at e
   have q':oc = p.2:=Option.some.inj e
   exact d w' (by rw [<- q']; exact hocd)
theorem Uv {M:Model} {A:Around} {E:Value->Shared->Prop} {i:Nat} {x:Str} {v:V} {u:Value} {Q:Unit->Shared->Prop} (I:Inv X pins σ H s) (hN:X.N.Nodup) (hi:X.N[i]? = some x) (hx:Loc X.env.scope x) (r:RelV v u)
  (h:∀ s',Inv X pins (σ.set i (some v)) H s'->Q () s') (hf:X.fn x = true\/X.env.scope.names.lookup x = some .local:=by first | exact .inl rfl | exact .inr rfl | assumption):wpAny M A (storeName X.env x u) Q E s :=
 Wr I hN hi hx r (fun s' I' _=>h s' I') hf
end
abbrev XK:=Value->Option Addr->Hp->Prop
abbrev St:=List (Option V)
abbrev VK:=V->Hp->Prop
abbrev TE:=St->Hp->VK->Prop
abbrev TT:=St->Hp->(Bool->Hp->Prop)->Prop
abbrev TA:=St->Hp->(List V->Hp->Prop)->Prop
structure Ends where
 nx:St->Hp->Prop
 rt:VK
 bk:St->Hp->Prop:=fun _ _=>False
 ct:St->Hp->Prop:=fun _ _=>False
abbrev TS:=Ends->St->Hp->Prop
def EP (X:Cx) (pins:List (Addr × Obj)) (σ:St) (Q:VK) (u:Value) (s':Shared):Prop:=∃ v H',Inv X pins σ H' s'/\RelV v u/\Q v H'
def TP (X:Cx) (pins:List (Addr × Obj)) (σ:St) (Q:Bool->Hp->Prop) (b:Bool) (s':Shared):Prop:=∃ H',Inv X pins σ H' s'/\Q b H'
def AP (X:Cx) (pins:List (Addr × Obj)) (σ:St) (Q:List V->Hp->Prop) (us:List Value) (s':Shared):Prop:=∃ vs H',Inv X pins σ H' s'/\Vals vs us/\Q vs H'
def SP (X:Cx) (pins:List (Addr × Obj)) (D:Ends) (f:Flow) (s':Shared):Prop :=
 match f with
 | .next=>∃ σ' H',Inv X pins σ' H' s'/\D.nx σ' H'
 | .brk=>∃ σ' H',Inv X pins σ' H' s'/\D.bk σ' H'
 | .cont=>∃ σ' H',Inv X pins σ' H' s'/\D.ct σ' H'
 | .ret u=>∃ v σ' H',Inv X pins σ' H' s'/\RelV v u/\D.rt v H'
def PE (X:Cx) (e:Expr) (t:TE):Prop :=
 ∀ (pins:List (Addr × Obj)) (s:Shared) (σ:St) (H:Hp) (Q:VK),Inv X pins σ H s->t σ H Q->wpAny (model X.prog X.w) X.A (eval e X.env) (EP X pins σ Q) X.xe s
def PT (X:Cx) (e:Expr) (t:TT):Prop :=
 ∀ (pins:List (Addr × Obj)) (s:Shared) (σ:St) (H:Hp) (Q:Bool->Hp->Prop),Inv X pins σ H s->t σ H Q->wpAny (model X.prog X.w) X.A (isTrue e X.env (eval e X.env)) (TP X pins σ Q) X.xe s
def PW (X:Cx) (e:Expr) (t:TT):Prop :=
 ∀ (whole:Sem Value) (pins:List (Addr × Obj)) (s:Shared) (σ:St) (H:Hp) (Q:Bool->Hp->Prop),Inv X pins σ H s->t σ H Q->wpAny (model X.prog X.w) X.A (isTrue e X.env whole) (TP X pins σ Q) X.xe s
theorem PW.pt {X:Cx} {e:Expr} {t:TT} (h:PW X e t):PT X e t:=h _
def PA (X:Cx) (es:List Expr) (t:TA):Prop :=
 ∀ (pos:Pos) (pins:List (Addr × Obj)) (s:Shared) (σ:St) (H:Hp) (Q:List V->Hp->Prop),Inv X pins σ H s->t σ H Q->wpAny (model X.prog X.w) X.A (spliced (backTo pos (starEach es X.env))) (AP X pins σ Q) X.xe s
def PS (X:Cx) (st:Stmt) (t:TS):Prop :=
 ∀ (pins:List (Addr × Obj)) (s:Shared) (σ:St) (H:Hp) (D:Ends),Inv X pins σ H s->t D σ H->wpAny (model X.prog X.w) X.A (exec st X.env) (SP X pins D) X.xe s
def PSs (X:Cx) (st:List Stmt) (t:TS):Prop :=
 ∀ (pins:List (Addr × Obj)) (s:Shared) (σ:St) (H:Hp) (D:Ends),Inv X pins σ H s->t D σ H->wpAny (model X.prog X.w) X.A (execs st X.env) (SP X pins D) X.xe s
theorem thn {α:Type} {t:Sem α} {Q Q':α->Shared->Prop} {M:Model} {A:Around} {E:Value->Shared->Prop} {s:Shared} (h:wpAny M A t Q E s) (hQ:∀ a s,Q a s->Q' a s):wpAny M A t Q' E s:=wpAny_mono h hQ fun _ _ x=>x
end L2
namespace L2
open PySem PySem.Spec PyProof.Rows
section
variable {X:Cx}
def Ji (i:Nat):TE:=fun σ H Q=>∃ v,σ[i]? = some (some v)/\Q v H
def tC (v:V):TE:=fun _ H Q=>Q v H
theorem Ajq {i:Nat} {x:Str} {pos:Pos} (hN:X.N[i]? = some x) (hv:Vis X.env.scope x) (hd:(x == ("__debug__" : Str)) = false:=by decide) (hcd:(x == ("__classdict__" : Str)) = false:=by decide):PE X (.Name x pos) (Ji i):=by
 intro pins s σ H Q I h
 obtain ⟨v,e,h⟩:=h
 obtain ⟨m,hn,hl⟩:=I.loc
 obtain ⟨u,r,l⟩:=hl i x v hN e hv
 have fin:EP X pins σ Q u s:=⟨v,H,I,r,h⟩
 rcases l with ⟨hk,hm⟩ | ⟨hk,c,hc,hcell⟩
 ·exact wpAny_Name (wpAny_loadName_local I.ok.kind hk hn hm fin) hd
 ·rcases hk with hk | hk
  ·exact wpAny_Name (wpAny_loadName_cell I.ok.kind hk hc hcell fin) hd
  ·exact wpAny_Name (wpAny_loadName_free I.ok.kind hk hc hcell fin hcd) hd
theorem Bf {i j pos}:PE X (.Constant (.int i) j pos) (tC (.int i)):=fun _ _ _ H _ I h=>wpAny_Constant_int ⟨.int i,H,I.tok _,⟨_,rfl⟩,h⟩
theorem Tu {b j pos}:PE X (.Constant (.bool b) j pos) (tC (.bl b)):=fun _ _ _ H _ I h=>Constant_bool ⟨.bl b,H,I,rfl,h⟩
theorem Aik {j pos}:PE X (.Constant .none j pos) (tC .non):=fun _ _ _ H _ I h=>Constant_none ⟨.non,H,I,rfl,h⟩
theorem Cr {x j pos}:PE X (.Constant (.str x) j pos) (tC (.str x)):=fun _ _ _ H _ I h=>Calls.Constant_str ⟨.str x,H,I.tok _,⟨_,rfl⟩,h⟩
def Gl (X:Cx) (x:Str):Prop:=X.env.kindOf x = some .globalImplicit
theorem Wa {E:Value->Shared->Prop} {pins:List (Addr × Obj)} {s:Shared} {σ:St} {H:Hp} {x:Str} {u:Value} {pos:Pos} {Q:Value->Shared->Prop} (I:Inv X pins σ H s) (hg:Gl X x) (hm:X.mg x = some u) (h:Q u s)
  (hd:(x == ("__debug__" : Str)) = false:=by decide):wpAny (model X.prog X.w) X.A (eval (.Name x pos) X.env) Q E s :=
 Calls.Name_function_global I.ok.kind hg (Calls.loadGlobal_global (by rw [I.ok.glob]; exact I.mod.glob.keeps I.bk) hm h) hd
theorem Lf {E:Value->Shared->Prop} {pins:List (Addr × Obj)} {s:Shared} {σ:St} {H:Hp} {x:Str} {u:Value} {pos:Pos} {Q:Value->Shared->Prop} (I:Inv X pins σ H s) (hg:Gl X x) (hm:X.mg x = none) (hv:bootBuiltins x = some u) (h:Q u s)
  (hn:x ≠ "__name__":=by decide) (hd:(x == ("__debug__" : Str)) = false:=by decide):wpAny (model X.prog X.w) X.A (eval (.Name x pos) X.env) Q E s:=by
 obtain ⟨mb,h1,h2⟩:=I.mod.blt
 exact Calls.Name_function_global I.ok.kind hg (Calls.loadGlobal_builtin (by rw [I.ok.glob]; exact I.mod.glob.keeps I.bk) hm (by rw [I.ok.blt]; exact h1.keeps I.bk) ((h2 x hn).trans hv) h) hd
theorem Vw {x:Str} {v:V} {u:Value} {pos:Pos} (hg:Gl X x) (hm:X.mg x = some u) (r:RelV v u) (hd:(x == ("__debug__" : Str)) = false:=by decide):PE X (.Name x pos) (tC v) :=
 fun _ _ _ H _ I h=>Wa I hg hm ⟨v,H,I,r,h⟩ hd
theorem Ls {x:Str} {v:V} {u:Value} {pos:Pos} (hg:Gl X x) (hm:X.mg x = none) (hv:bootBuiltins x = some u) (r:RelV v u) (hn:x ≠ "__name__":=by decide) (hd:(x == ("__debug__" : Str)) = false:=by decide):PE X (.Name x pos) (tC v) :=
 fun _ _ _ H _ I h=>Lf I hg hm hv ⟨v,H,I,r,h⟩ hn hd
variable {a b:Expr} {ta tb:TE} {pos:Pos}
def PC (X:Cx) (op:CmpOp) (a b:Expr) (t:TE):Prop :=
 ∀ (pins:List (Addr × Obj)) (s:Shared) (σ:St) (H:Hp) (Q:VK),Inv X pins σ H s->t σ H Q ->
  wpAny (model X.prog X.w) X.A (eval a X.env) (fun v s₁=>wpAny (model X.prog X.w) X.A (eval b X.env) (fun u s₂=>wpAny (model X.prog X.w) X.A (compareOp op v u) (EP X pins σ Q) X.xe s₂) X.xe s₁) X.xe s
theorem Yf (b:Expr) {op:CmpOp} (h:op ≠ .In) (h2:op ≠ .NotIn):behindInMarks op b = false:=by
 have e1:(op == CmpOp.In) = false:=by cases op <;> first | rfl | exact absurd rfl h
 have e2:(op == CmpOp.NotIn) = false:=by cases op <;> first | rfl | exact absurd rfl h2
 cases b <;> simp [behindInMarks,e1,e2]
def AfE (ta:TE):TE:=fun σ H Q=>ta σ H fun x H1=>Q (.bl (!decide (x = .non))) H1
theorem RelV.none_iff {x:V} {v:Value} (r:RelV x v):(v == Value.none) = decide (x = .non):=by
 cases x with
 | non=>cases r; rfl
 | bl _=>cases r; rfl
 | int _=>obtain ⟨t,rfl⟩:=r; rfl
 | str _=>obtain ⟨t,rfl⟩:=r; rfl
 | byt _=>obtain ⟨t,rfl⟩:=r; rfl
 | flt _=>obtain ⟨t,rfl⟩:=r; rfl
 | ref _=>cases r; rfl
 | ty _=>cases r; rfl
theorem Aaw {j pos'} (ha:PE X a ta):PC X .IsNot a (.Constant .none j pos') (AfE ta):=by
 intro pins s σ H Q I h
 refine thn (ha pins s σ H _ I h) fun v s1 ⟨x,H1,I1,r1,q1⟩=>?_
 exact Constant_none (isnot_none_gen ⟨.bl _,H1,I1,by rw [r1.none_iff]; rfl,q1⟩)
def tB (t:TE):TT:=fun σ H Q=>t σ H fun x H1=>∃ c,x = .bl c/\Q c H1
theorem Vj {op:CmpOp} {t:TE} (h:PC X op a b t) (h1:behindInMarks op b = false:=by first | exact Yf _ (by decide) (by decide) | rfl):PE X (.Compare a [op] [b] pos) t:=fun pins s σ H Q I hw=>wpAny_Compare1 (h pins s σ H Q I hw) h1
theorem Vm {op:CmpOp} {t:TE} (h:PC X op a b t) (h1:behindInMarks op b = false:=by first | exact Yf _ (by decide) (by decide) | rfl):PT X (.Compare a [op] [b] pos) (tB t):=by
 intro pins s σ H Q I hw
 refine wpAny_isTrue_Compare1 (thn (h pins s σ H _ I hw) fun v s1 h1=>thn h1 fun u s2 h2=>thn h2 fun c s3 ⟨x,H1,I1,r1,q1⟩=>?_) h1
 obtain ⟨d,rfl,q⟩:=q1
 cases r1
 exact wpAny_truthy_bool ⟨H1,I1,q⟩
theorem Yb {e:Expr} {t:TE} (h:PE X e t) (he:∀ whole,isTrue e X.env whole = (do let v <- whole; standAt e.pos; holding [v] (truthy v)):=by intro _; rfl):PT X e (tB t):=by
 intro pins s σ H Q I hw
 refine isTrue_plain (thn (h pins s σ H _ I hw) fun v s1 ⟨x,H1,I1,r1,q1⟩=>?_) (he _)
 obtain ⟨d,rfl,q⟩:=q1
 cases r1
 exact wpAny_truthy_bool ⟨H1,I1,q⟩
variable {tA tB':TT} {rest:List Expr}
def AhS (t u:TT):TT:=fun σ H Q=>t σ H fun c H1=>if c = true then u σ H1 Q else Q false H1
def tOr (t u:TT):TT:=fun σ H Q=>t σ H fun c H1=>if c = true then Q true H1 else u σ H1 Q
def AdZ (t:TT):TT:=fun σ H Q=>t σ H fun c H1=>Q (!c) H1
theorem Tr (ha:PT X a tA):PW X (.BoolOp .And [a] pos) tA:=by
 intro wh pins s σ H Q I h
 refine isTrue_and (thn (ha pins s σ H Q I h) fun c s1 e=>?_)
 cases c with
 | true=>exact isTrue_and_nil e
 | false=>exact e
theorem Vp (ha:PT X a tA):PW X (.BoolOp .Or [a] pos) tA:=by
 intro wh pins s σ H Q I h
 refine isTrue_or (thn (ha pins s σ H Q I h) fun c s1 e=>?_)
 cases c with
 | false=>exact isTrue_or_nil e
 | true=>exact e
theorem Va (ha:PT X a tA) (hb:PW X (.BoolOp .And (b :: rest) pos) tB'):PW X (.BoolOp .And (a :: b :: rest) pos) (AhS tA tB'):=by
 intro wh pins s σ H Q I h
 refine isTrue_and (thn (ha pins s σ H _ I h) fun c s1 ⟨H1,I1,q1⟩=>?_)
 cases c with
 | true=>exact hb wh pins s1 σ H1 Q I1 q1
 | false=>exact ⟨H1,I1,q1⟩
theorem Xo (ha:PT X a tA) (hb:PW X (.BoolOp .Or (b :: rest) pos) tB'):PW X (.BoolOp .Or (a :: b :: rest) pos) (tOr tA tB'):=by
 intro wh pins s σ H Q I h
 refine isTrue_or (thn (ha pins s σ H _ I h) fun c s1 ⟨H1,I1,q1⟩=>?_)
 cases c with
 | true=>exact ⟨H1,I1,q1⟩
 | false=>exact hb wh pins s1 σ H1 Q I1 q1
theorem Zq (ha:PT X a tA):PT X (.UnaryOp .Not a pos) (AdZ tA):=by
 intro pins s σ H Q I h
 exact isTrue_not (ha pins s σ H (fun c H1=>Q (!c) H1) I h)
def AfP (ta tb:TE):TE:=fun σ H Q=>ta σ H fun x H1=>∃ c,x = .bl c/\if c = true then tb σ H1 Q else Q (.bl false) H1
def Afx (ta:TE):TE:=fun σ H Q=>ta σ H fun x H1=>∃ c,x = .bl c/\Q (.bl (!c)) H1
theorem Sx {op} {t:TE} (h:PE X a t):PE X (.BoolOp op [a] pos) t:=fun pins s σ H Q I hw=>BoolOp_one (h pins s σ H Q I hw)
theorem Ql (ha:PE X a ta) (hb:PE X (.BoolOp .And (b :: rest) pos) tb):PE X (.BoolOp .And (a :: b :: rest) pos) (AfP ta tb):=by
 intro pins s σ H Q I h
 refine BoolOp_and (thn (ha pins s σ H _ I h) fun v s1 ⟨x,H1,I1,r1,q1⟩=>?_)
 obtain ⟨c,rfl,q1⟩:=q1
 cases r1
 refine wpAny_truthy_bool ?_
 cases c with
 | true=>exact hb pins s1 σ H1 Q I1 q1
 | false=>exact ⟨.bl false,H1,I1,rfl,q1⟩
theorem AjB (ha:PE X a ta):PE X (.UnaryOp .Not a pos) (Afx ta):=by
 intro pins s σ H Q I h
 refine UnaryOp_ (thn (ha pins s σ H _ I h) fun v s1 ⟨x,H1,I1,r1,q1⟩=>?_)
 obtain ⟨c,rfl,q1⟩:=q1
 cases r1
 exact not_of (wpAny_truthy_bool ⟨.bl (!c),H1,I1,rfl,q1⟩)
end
end L2
namespace L2
open PySem PySem.Spec PyProof.Rows
def SqL (K:PySem.W.Frag) (H:Hp) (a:Addr) (xs:List V):Prop :=
 Rd H a (.lst xs) \/
  ∃ (o:Obj) (its:Array Value) (n:Nat),K.lookup a = some o/\o.cls = .type "list"/\o.dict = none/\o.data = .seq its n/\its.size <= sizeLine/\Vals xs its.toList
def SqT (K:PySem.W.Frag) (H:Hp) (a:Addr) (xs:List V):Prop :=
 Rd H a (.tup xs) \/
  ∃ (o:Obj) (its:Array Value) (n:Nat),K.lookup a = some o/\o.cls = .type "tuple"/\o.data = .seq its n/\its.size <= sizeLine/\Vals xs its.toList
def AlK:Value->Option V
 | .none=>some .non
 | .bool b=>some (.bl b)
 | .int i _=>some (.int i)
 | .str x _=>some (.str x)
 | .bytes b _=>some (.byt b)
 | .float b _=>some (.flt b)
 | .ref a=>some (.ref a)
 | .type n=>some (.ty n)
 | _=>none
theorem RelV.abs {x:V} {u:Value} (r:RelV x u):AlK u = some x:=by
 cases x with
 | non=>cases r; rfl
 | bl _=>cases r; rfl
 | int _=>obtain ⟨t,rfl⟩:=r; rfl
 | str _=>obtain ⟨t,rfl⟩:=r; rfl
 | byt _=>obtain ⟨t,rfl⟩:=r; rfl
 | flt _=>obtain ⟨t,rfl⟩:=r; rfl
 | ref _=>cases r; rfl
 | ty _=>cases r; rfl
theorem RelV.inj {x y:V} {u:Value} (r:RelV x u) (q:RelV y u):x = y:=Option.some.inj (r.abs.symm.trans q.abs)
theorem Vals.inj:∀ {xs ys:List V} {us:List Value},Vals xs us->Vals ys us->xs = ys
 | _,_,_,.nil,.nil=>rfl
 | _,_,_,.cons r t,.cons r' t'=>by rw [r.inj r',Vals.inj t t']
section
variable {X:Cx} {pins:List (Addr × Obj)} {σ:St} {H:Hp} {s:Shared} {a:Addr} {xs ys:List V}
theorem SqL.of {K:PySem.W.Frag} (h:H a = some (.lst xs)):SqL K H a xs:=.inl (.inl h)
theorem SqT.of {K:PySem.W.Frag} (h:H a = some (.tup xs)):SqT K H a xs:=.inl (.inl h)
theorem Inv.list (I:Inv X pins σ H s) (h:SqL X.K H a xs):∃ its:List Value,Vals xs its/\PlainL s.heap a its.toArray/\xs.length <= sizeLine:=by
 rcases h with h | ⟨o,its,n,hk,hc,hd,hs,hz,r⟩
 ·obtain ⟨z,its,n,r,e⟩:=h.ok I.hok
  exact ⟨its,r,⟨_,n,e,rfl,rfl,rfl⟩,z⟩
 ·refine ⟨its.toList,r,⟨o,n,I.kIn a o hk,hc,hd,by simpa using hs⟩,?_⟩
  have e:=r.length
  simp only [Array.length_toList] at e
  omega
theorem Inv.tuple (I:Inv X pins σ H s) (h:SqT X.K H a xs):∃ its:List Value,Vals xs its/\IsTup s.heap a its.toArray/\xs.length <= sizeLine:=by
 rcases h with h | ⟨o,its,n,hk,hc,hs,hz,r⟩
 ·obtain ⟨z,its,r,p⟩:=h.ok I.hok
  exact ⟨its,r,p,z⟩
 ·refine ⟨its.toList,r,⟨o,I.kIn a o hk,hc,n,by simpa using hs⟩,?_⟩
  have e:=r.length
  simp only [Array.length_toList] at e
  omega
theorem Inv.list_inj (I:Inv X pins σ H s) (h:SqL X.K H a xs) (h':SqL X.K H a ys):xs = ys:=by
 obtain ⟨its,r,⟨o,n,e,_,_,d⟩,_⟩:=I.list h
 obtain ⟨its',r',⟨o',n',e',_,_,d'⟩,_⟩:=I.list h'
 rw [e] at e'; cases e'
 rw [d] at d'
 injection d' with d1 _
 have:its = its':=by simpa using congrArg Array.toList d1
 subst this
 exact r.inj r'
end
abbrev Cx.wish (X:Cx) (E:Value->Shared->Prop):Cx:={ X with xe:=E }
abbrev Cx.nox (X:Cx):Cx:=X.wish fun _ _=>False
theorem Cx.Ok.wish {X:Cx} (ok:X.Ok) (E:Value->Shared->Prop):(X.wish E).Ok :=
 ⟨ok.mod,ok.kind,ok.glob,ok.blt,ok.above,ok.inj,ok.has,ok.cab,ok.hd,ok.frames,ok.stk,ok.exf,ok.bs,ok.bsz,ok.noex,ok.exfs,ok.funs,ok.frf⟩
theorem Cx.Ok.unwish {X:Cx} {E:Value->Shared->Prop} (ok:(X.wish E).Ok):X.Ok :=
 ⟨ok.mod,ok.kind,ok.glob,ok.blt,ok.above,ok.inj,ok.has,ok.cab,ok.hd,ok.frames,ok.stk,ok.exf,ok.bs,ok.bsz,ok.noex,ok.exfs,ok.funs,ok.frf⟩
section
variable {X:Cx} {pins:List (Addr × Obj)} {σ:St} {H:Hp} {s:Shared} {E:Value->Shared->Prop}
theorem Inv.wish (I:Inv X pins σ H s) (E:Value->Shared->Prop):Inv (X.wish E) pins σ H s:=⟨I.ok.wish E,I.os,I.bare,I.base,I.loc,I.cell,I.free,I.freeC,I.pin,I.hok,I.len⟩
theorem Inv.unwish (I:Inv (X.wish E) pins σ H s):Inv X pins σ H s:=⟨I.ok.unwish,I.os,I.bare,I.base,I.loc,I.cell,I.free,I.freeC,I.pin,I.hok,I.len⟩
theorem SP.unwish {D:Ends} {f:Flow} {s':Shared} (h:SP (X.wish E) pins D f s'):SP X pins D f s':=by
 cases f with
 | next=>obtain ⟨σ',H',I,q⟩:=h; exact ⟨σ',H',I.unwish,q⟩
 | brk=>obtain ⟨σ',H',I,q⟩:=h; exact ⟨σ',H',I.unwish,q⟩
 | cont=>obtain ⟨σ',H',I,q⟩:=h; exact ⟨σ',H',I.unwish,q⟩
 | ret u=>obtain ⟨v,σ',H',I,r,q⟩:=h; exact ⟨v,σ',H',I.unwish,r,q⟩
theorem PSs.nox {st:List Stmt} {t:TS} (h:PSs X.nox st t):PSs X st t:=fun pins s σ H D I hw =>
 wpAny_mono (h pins s σ H D (I.wish _) hw) (fun _ _ q=>q.unwish) fun _ _ z=>False.elim z
end
section
variable {X:Cx} {st:Stmt} {rest:List Stmt} {t u:TS} {e:Expr} {te:TE} {pos:Pos}
def Abl:TS:=fun D σ H=>D.nx σ H
def AeC (t u:TS):TS:=fun D σ H=>t { D with nx:=u D } σ H
theorem Dm:PSs X [] Abl:=fun _ _ σ H _ I h=>wpAny_execs_nil ⟨σ,H,I,h⟩
theorem Be (h1:PS X st t) (h2:PSs X rest u):PSs X (st :: rest) (AeC t u):=by
 intro pins s σ H D I h
 refine wpAny_execs_cons (thn (h1 pins s σ H { D with nx:=u D } I h) fun f s1 q=>?_)
 cases f with
 | next =>
  obtain ⟨σ',H',I',q⟩:=q
  exact h2 pins s1 σ' H' D I' q
 | ret v=>exact q
 | brk=>exact q
 | cont=>exact q
theorem Bi (h1:PS X st t):PSs X [st] t:=by
 intro pins s σ H D I h
 refine wpAny_execs_cons (thn (h1 pins s σ H D I h) fun f s1 q=>?_)
 cases f with
 | next=>exact wpAny_execs_nil q
 | ret v=>exact q
 | brk=>exact q
 | cont=>exact q
theorem Inv.quiet {pins:List (Addr × Obj)} {σ:St} {H:Hp} {s:Shared} (I:Inv X pins σ H s):interactive X.env = false:=by simp [interactive,I.ok.kind]
def Vd (te:TE):TS:=fun D σ H=>te σ H fun _ H1=>D.nx σ H1
theorem Cg (he:PE X e te) (hs:swapsWith e none pos.line X.env = pure false:=by rfl):PS X (.Expr e pos) (Vd te):=by
 intro pins s σ H D I h
 exact wpAny_Expr_any (thn (he pins s σ H _ I h) fun v s1 ⟨x,H1,I1,r1,q1⟩=>⟨σ,H1,I1,q1⟩) I.quiet hs
def Ze (te:TE):TS:=fun D σ H=>te σ H D.rt
theorem Cc (he:PE X e te):PS X (.Return (some e) pos) (Ze te):=by
 intro pins s σ H D I h
 exact wpAny_Return_some (thn (he pins s σ H _ I h) fun v s1 ⟨x,H1,I1,r1,q1⟩=>⟨x,σ,H1,I1,r1,q1⟩)
def AeP (c:TT) (t u:TS):TS:=fun D σ H=>c σ H fun b H1=>if b = true then t D σ H1 else u D σ H1
theorem Fj {c:Expr} {a b:List Stmt} {tc:TT} (hc:PT X c tc) (ha:PSs X a t) (hb:PSs X b u):PS X (.If c a b pos) (AeP tc t u):=by
 intro pins s σ H D I h
 refine wpAny_If (thn (hc pins s σ H _ I h) fun d s1 ⟨H1,I1,q1⟩=>?_)
 cases d with
 | true=>exact ha pins s1 σ H1 D I1 q1
 | false=>exact hb pins s1 σ H1 D I1 q1
def Aig:TS:=fun _ _ _=>False
theorem Adf {sts:List Stmt}:PSs X sts Aig:=fun _ _ _ _ _ _ h=>h.elim
end
abbrev TG:=V->St->Hp->(St->Hp->Prop)->Prop
abbrev TGs:=List V->St->Hp->(St->Hp->Prop)->Prop
def PG (X:Cx) (target:Expr) (t:TG):Prop :=
 ∀ (pins:List (Addr × Obj)) (s:Shared) (σ:St) (H:Hp) (v:V) (u:Value) (Q:St->Hp->Prop),Inv X pins σ H s->RelV v u->t v σ H Q ->
  wpAny (model X.prog X.w) X.A (assign target X.env u) (fun _ s'=>∃ σ' H',Inv X pins σ' H' s'/\Q σ' H') X.xe s
def PGs (X:Cx) (ts:List Expr) (t:TGs):Prop :=
 ∀ (pins:List (Addr × Obj)) (s:Shared) (σ:St) (H:Hp) (vs:List V) (us:List Value) (Q:St->Hp->Prop),Inv X pins σ H s->Vals vs us->t vs σ H Q ->
  wpAny (model X.prog X.w) X.A (assignInOrder ((assignEach ts X.env).map (·.2)) us) (fun _ s'=>∃ σ' H',Inv X pins σ' H' s'/\Q σ' H') X.xe s
abbrev TIp:=V->V->Hp->VK->Prop
def PIp (X:Cx) (op:Operator) (t:TIp):Prop :=
 ∀ (pins:List (Addr × Obj)) (s:Shared) (σ:St) (H:Hp) (x y:V) (v u:Value) (Q:VK),Inv X pins σ H s->RelV x v->RelV y u->t x y H Q ->
  wpAny (model X.prog X.w) X.A (inplaceOp op v u) (EP X pins σ Q) X.xe s
section
variable {X:Cx} {pos:Pos}
def Lx (i:Nat):TG:=fun v σ H Q=>Q (σ.set i (some v)) H
theorem Br {i:Nat} {x:Str} (hN:X.N.Nodup) (hi:X.N[i]? = some x) (hx:Loc X.env.scope x) (hf:X.fn x = true\/X.env.scope.names.lookup x = some .local:=by first | exact .inl rfl | exact .inr rfl | assumption):PG X (.Name x pos) (Lx i):=by
 intro pins s σ H v u Q I r h
 exact wpAny_assign_Name (Uv I hN hi hx r (fun s' I'=>⟨_,H,I',h⟩) hf)
def AeW:TGs:=fun vs σ H Q=>vs = []/\Q σ H
def Abh (t:TG) (u:TGs):TGs:=fun vs σ H Q=>∃ v r,vs = v :: r/\t v σ H fun σ' H'=>u r σ' H' Q
theorem Gi:PGs X [] AeW:=by
 intro pins s σ H vs us Q I r h
 obtain ⟨e,h⟩:=h
 subst e
 cases r
 exact assignInOrder_nil ⟨σ,H,I,h⟩
theorem Cm {e:Expr} {es:List Expr} {t:TG} {u:TGs} (h1:PG X e t) (h2:PGs X es u)
  (hs:(assignEach (e :: es) X.env).map (·.2) = assign e X.env :: (assignEach es X.env).map (·.2):=by rfl):PGs X (e :: es) (Abh t u):=by
 intro pins s σ H vs us Q I r h
 obtain ⟨v,vr,e1,h⟩:=h
 subst e1
 cases r with
 | cons r rr =>
  rw [hs]
  refine assignInOrder_cons (thn (h1 pins s σ H _ _ _ I r h) fun _ s1 ⟨σ1,H1,I1,q1⟩=>?_)
  exact h2 pins s1 σ1 H1 _ _ Q I1 rr q1
def Zy (K:PySem.W.Frag) (n:Nat) (t:TGs):TG:=fun v σ H Q=>∃ a xs,v = .ref a/\SqT K H a xs/\xs.length = n/\t xs σ H Q
theorem Oj {es:List Expr} {k:Nat} {t:TGs} {n:Nat} (hc:X.calm = true) (h:PGs X es t)
  (hn:(assignEach es X.env).length = n:=by rfl) (hst:(assignEach es X.env).findIdx? (·.1) = none:=by rfl):PG X (.Tuple es k pos) (Zy X.K n t):=by
 intro pins s σ H v u Q I r hw
 obtain ⟨a,xs,e1,hq,hl,hw⟩:=hw
 subst e1
 cases r
 obtain ⟨its,rv,ht,hz⟩:=I.tuple hq
 refine assign_Tuple_tuple (I.ok.hd hc) ht (by simp [hn,<- hl,rv.length]) hst fun h' hx=>?_
 have I1:Inv X pins σ H { s with heap:=h' }:=I.kept (t':=s.toks) fun b o e=>hx b o (Nat.ne_of_lt (Heap.lt_size e)) e
 exact h pins _ σ H xs _ Q I1 (by simpa using rv) hw
def Sh (te:TE) (g:TG):TS:=fun D σ H=>te σ H fun x H1=>g x σ H1 D.nx
theorem AhK {tg e:Expr} {te:TE} {g:TG} (he:PE X e te) (hg:PG X tg g) (hs:swapsWithSole [tg] e pos.line X.env = pure false:=by rfl) (hw:swappedStores [tg] e X.env = pure none:=by rfl)
  (h1:(assignEach [tg] X.env).map (·.2) = [assign tg X.env]:=by rfl):PS X (.Assign [tg] e pos) (Sh te g):=by
 intro pins s σ H D I h
 refine wpAny_Assign_stores (thn (he pins s σ H _ I h) fun v s1 ⟨x,H1,I1,r1,q1⟩=>?_) hs hw
 rw [h1]
 exact thn (hg pins s1 σ H1 x v _ I1 r1 q1) fun _ s2 q=>q
theorem Bs {i:Nat} {x:Str} {e:Expr} {te:TE} {pos':Pos} (hN:X.N.Nodup) (hi:X.N[i]? = some x) (hx:Loc X.env.scope x) (he:PE X e te) (hs:swapsWith e (some (.Name x pos')) pos.line X.env = pure false:=by rfl) (hf:X.fn x = true\/X.env.scope.names.lookup x = some .local:=by first | exact .inl rfl | exact .inr rfl | assumption) :
  PS X (.Assign [.Name x pos'] e pos) (Sh te (Lx i)):=by
 intro pins s σ H D I h
 refine wpAny_Assign_Name (thn (he pins s σ H _ I h) fun v s1 ⟨y,H1,I1,r1,q1⟩=>?_) hs
 exact Uv I1 hN hi hx r1 (fun s2 I2=>⟨_,H1,I2,q1⟩) hf
def AjT (i:Nat) (te:TE) (ti:TIp):TS:=fun D σ H=>∃ x,σ[i]? = some (some x)/\te σ H fun y H1=>ti x y H1 fun z H2=>D.nx (σ.set i (some z)) H2
theorem Ajz {i:Nat} {x:Str} {e:Expr} {te:TE} {op:Operator} {ti:TIp} {pos':Pos} (hN:X.N.Nodup) (hi:X.N[i]? = some x) (hx:Loc X.env.scope x) (he:PE X e te) (ho:PIp X op ti) (hf:X.fn x = true\/X.env.scope.names.lookup x = some .local:=by first | exact .inl rfl | exact .inr rfl | assumption) :
  PS X (.AugAssign (.Name x pos') op e pos) (AjT i te ti):=by
 intro pins s σ H D I h
 obtain ⟨v,e1,h⟩:=h
 obtain ⟨m,hn,hl⟩:=I.loc
 have vis:Vis X.env.scope x:=by rcases hx with k | k; exact .inl k; exact .inr (.inl k)
 obtain ⟨u,r,l⟩:=hl i x v hi e1 vis
 refine wpAny_AugAssign_Name ?_
 have go:wpAny (model X.prog X.w) X.A (eval e X.env) (fun w s₂=>wpAny (model X.prog X.w) X.A (inplaceOp op u w) (fun r s₃=>wpAny (model X.prog X.w) X.A (storeName X.env x r) (fun _=>SP X pins D .next) X.xe s₃) X.xe s₂) X.xe s:=by
  refine thn (he pins s σ H _ I h) fun w s1 ⟨y,H1,I1,r1,q1⟩=>?_
  refine thn (ho pins s1 σ H1 v y u w _ I1 r r1 q1) fun z s2 ⟨zv,H2,I2,r2,q2⟩=>?_
  exact Uv I2 hN hi hx r2 (fun s3 I3=>⟨_,H2,I3,q2⟩) hf
 rcases l with ⟨hk,hm⟩ | ⟨hk,c,hc,hcell⟩
 ·exact wpAny_loadName_local I.ok.kind hk hn hm go
 ·rcases hk with hk | hk
  ·exact wpAny_loadName_cell I.ok.kind hk hc hcell go
  ·rcases hx with k | k
   ·have:X.env.scope.names.lookup x = some .free:=hk
    rw [k] at this; cases this
   ·have:X.env.scope.names.lookup x = some .free:=hk
    rw [k] at this; cases this
def ipI (f:Int->Int->Int):TIp:=fun x y H Q=>∃ i j,x = .int i/\y = .int j/\Q (.int (f i j)) H
theorem Aj8:PIp X .Add (ipI fun i j=>i + j):=by
 intro pins s σ H x y v u Q I r1 r2 h
 obtain ⟨i,j,e1,e2,q⟩:=h
 subst e1; subst e2
 obtain ⟨t,rfl⟩:=r1
 obtain ⟨t',rfl⟩:=r2
 exact iadd_int ⟨.int _,H,I.tok _,⟨_,rfl⟩,q⟩
end
section
variable {X:Cx} {pos:Pos}
def AcK (c:TT) (tb:TS):TS:=fun D σ H=>∃ W:Nat->St->Hp->Prop,(∃ m,W m σ H)/\∀ m σ H,W m σ H ->
 c σ H fun b H1=>if b = true then ∃ N:St->Hp->Prop,(∀ σ' H',N σ' H'->∃ m',m' < m/\W m' σ' H')/\tb { D with nx:=N,ct:=N,bk:=D.nx } σ H1 else D.nx σ H1
theorem Zs {c:Expr} {body:List Stmt} {tc:TT} {tb:TS} (hp:PassesOwn (model X.prog X.w) X.A X.env X.xe) (hc:PT X c tc) (hb:PSs X body tb):PS X (.While c body [] pos) (AcK tc tb):=by
 intro pins s σ H D I h
 obtain ⟨W,⟨m0,w0⟩,turn⟩:=h
 refine wpAny_While (codeAny_whileLoop (fun n s'=>∃ σ' H',Inv X pins σ' H' s'/\W n σ' H') ?_ m0 ⟨σ,H,I,w0⟩)
 rintro n s1 ⟨σ1,H1,I1,w1⟩
 refine wpAny_passesOwn hp (thn (hc pins s1 σ1 H1 _ I1 (turn n σ1 H1 w1)) fun b s2 ⟨H2,I2,q2⟩=>?_)
 cases b with
 | true =>
  obtain ⟨N,hN,q2⟩:=q2
  rw [if_pos rfl]
  refine wpAny_passesOwn hp (thn (hb pins s2 σ1 H2 _ I2 q2) fun f s3 q3=>?_)
  cases f with
  | next =>
   obtain ⟨σ3,H3,I3,n3⟩:=q3
   obtain ⟨m',hm,w3⟩:=hN σ3 H3 n3
   exact ⟨m',hm,σ3,H3,I3,w3⟩
  | cont =>
   obtain ⟨σ3,H3,I3,n3⟩:=q3
   obtain ⟨m',hm,w3⟩:=hN σ3 H3 n3
   exact ⟨m',hm,σ3,H3,I3,w3⟩
  | brk=>exact q3
  | ret v=>exact q3
 | false =>
  rw [if_neg Bool.false_ne_true]
  exact wpAny_execs_nil ⟨σ1,H2,I2,q2⟩
end
structure It where
 go:Nat->Hp->Prop
 yld:Nat->Hp->V->Hp->Prop
 stop:Nat->Hp->Prop
def Su (X:Cx) (pins:List (Addr × Obj)) (H:Hp) (b:Addr):Prop :=
 H b = none/\b ≠ X.env.locals/\b ∉ X.fs/\(b ∈ X.ex\/X.s₀.heap.objs.size <= b)/\(∀ x c,X.env.cells.lookup x = some c->c ≠ b)/\∀ p ∈ X.pn ++ pins,p.1 ≠ b
theorem Inv.fpOk {X:Cx} {pins:List (Addr × Obj)} {σ:St} {H H':Hp} {s:Shared} {b:Addr} (I:Inv X pins σ H s) (hb:s.heap.objs.size <= b) (hn:H' b = none):Su X pins H' b:=by
 refine ⟨hn,Nat.ne_of_gt (Nat.lt_of_lt_of_le I.lt hb),I.nofs hb,.inr (Nat.le_trans I.sz hb),fun x c e z=>?_,fun p hp z=>?_⟩
 ·obtain ⟨v,q⟩:=I.cell x c e
  exact absurd (Nat.lt_of_lt_of_le q.lt (by rw [z]; exact hb)) (Nat.lt_irrefl _)
 ·exact absurd (Nat.lt_of_lt_of_le (Heap.lt_size (I.pin p hp).1) (by rw [z]; exact hb)) (Nat.lt_irrefl _)
structure Sn (P:Program) (w:World) (K:PySem.W.Frag) (tg:Expr) (J:It) (fp:List Addr) (it:Addr) (tn:Nat->Heap->Prop):Prop where
 mem:it ∈ fp
 obj:∀ i h,tn i h->∀ b ∈ fp,∃ o,h.get? b = some o/\∀ v,o.data ≠ .cell v
 keep:∀ i h h',tn i h->(∀ b ∈ fp,∀ o,h.get? b = some o->h'.get? b = some o)->tn i h'
 item:∀ (X:Cx),X.prog = P->X.w = w->X.K = K->X.calm = true->∀ (i:Nat) (pins:List (Addr × Obj)) (s:Shared) (σ:St) (H:Hp) (E:Value->Shared->Prop),Inv X pins σ H s->(∀ b ∈ fp,Su X pins H b)->tn i s.heap->J.go i H ->
  wpAny (model P w) X.A (pyNext (.ref it)) (fun r s1=>∃ u,r = some u /\
   wpAny (model P w) X.A (letOwnedTupleGo tg (.ref it) u) (fun _ s2=>∃ x H',Inv X pins σ H' s2/\RelV x u/\J.yld i H x H'/\tn (i + 1) s2.heap/\∀ b ∈ fp,H' b = none) E s1) E s
 done:∀ (X:Cx),X.prog = P->X.w = w->X.K = K->X.calm = true->∀ (i:Nat) (pins:List (Addr × Obj)) (s:Shared) (σ:St) (H:Hp) (E:Value->Shared->Prop),Inv X pins σ H s->(∀ b ∈ fp,Su X pins H b)->tn i s.heap->J.stop i H ->
  wpAny (model P w) X.A (pyNext (.ref it)) (fun r s1=>r = none/\Inv X pins σ H s1) E s
 self:∀ (A:Around) (i:Nat) (s:Shared) (Q:Value->Shared->Prop) (E:Value->Shared->Prop),tn i s.heap->Q (.ref it) s->wpAny (model P w) A (pyIter (.ref it)) Q E s
abbrev TI:=St->Hp->(It->Hp->Prop)->Prop
def PIE (X:Cx) (pins:List (Addr × Obj)) (σ:St) (tg:Expr) (R:It->Hp->Prop) (itv:Value) (s2:Shared):Prop :=
 ∃ (it:Addr) (fp:List Addr) (tn:Nat->Heap->Prop) (J:It) (H':Hp),itv = .ref it/\Inv X pins σ H' s2/\Sn X.prog X.w X.K tg J fp it tn/\tn 0 s2.heap/\(∀ b ∈ fp,Su X pins H' b)/\R J H'
def PI (X:Cx) (tg iter:Expr) (wi:TI):Prop :=
 ∀ (pins:List (Addr × Obj)) (s:Shared) (σ:St) (H:Hp) (R:It->Hp->Prop),Inv X pins σ H s->wi σ H R ->
  wpAny (model X.prog X.w) X.A (eval iter X.env) (fun v s1=>wpAny (model X.prog X.w) X.A (pyIter v) (PIE X pins σ tg R) X.xe s1) X.xe s
theorem Xn {M:Model} {A:Around} {E:Value->Shared->Prop} {s:Shared} {tg:Expr} {it:Addr} {u:Value} {o:Obj} {n:String} {vs:Array Value} {Q:Unit->Shared->Prop} (ho:s.heap.get? it = some o) (hc:o.cls = .type n) (hd:o.data = .fields vs)
  (hn:["enumerate","zip","dict_itemiterator","dict_reverseitemiterator","odict_iterator","itertools.zip_longest","itertools.pairwise"].contains n = false) (hQ:Q () s):wpAny M A (letOwnedTupleGo tg (.ref it) u) Q E s:=by
 unfold letOwnedTupleGo
 cases tg <;> first
  | exact wpAny_pure hQ
  | (cases u <;> first
    | exact wpAny_pure hQ
    | (refine wpAny_bind (wpAny_load ho ?_); rw [hc,hd]; show wpAny M A (if (["enumerate","zip","dict_itemiterator","dict_reverseitemiterator","odict_iterator","itertools.zip_longest","itertools.pairwise"].contains n && vs[0]? == some (rawInt _)) = true then _ else _) Q E s; rw [if_neg (by intro h; rw [hn,Bool.false_and] at h; cases h)]; exact wpAny_pure hQ))
def Itl (K:PySem.W.Frag) (a:Addr):It :=
 ⟨fun i H=>∃ xs x,SqL K H a xs/\xs[i]? = some x,fun i H x H'=>H' = H/\∀ xs,SqL K H a xs->xs[i]? = some x,fun i H=>∃ xs,SqL K H a xs/\xs.length <= i⟩
def Itr (lo:Int) (n:Nat):It:=⟨fun i _=>i < n,fun i H x H'=>H' = H/\x = .int (lo + i),fun i _=>n <= i⟩
theorem Adw {P:Program} {w:World} {K:PySem.W.Frag} {tg:Expr} (a it:Addr):Sn P w K tg (Itl K a) [it] it (fun i h=>h.IsListIter it a i) where
 mem:=by simp
 obj:=fun i h st b hb=>by
  have e:b = it:=by simpa using hb
  subst e
  obtain ⟨o,e,c,d⟩:=st
  exact ⟨o,e,fun v z=>by rw [d] at z; cases z⟩
 keep:=fun i h h' st k=>st.at fun o e=>k it (by simp) o e
 item:=by
  intro X hP hw hK hc i pins s σ H E I hf st hg
  subst hP hw hK
  obtain ⟨xs,x,hq,hx⟩:=hg
  obtain ⟨its,rv,p,hz⟩:=I.list hq
  obtain ⟨u,hu,ru⟩:=rv.get hx
  obtain ⟨f0,f1,f2,f3,f4,f5⟩:=hf it (by simp)
  refine wpAny_pyNext_list_item st p.isList (x:=u) (by simpa using hu) fun h' st' sb=>?_
  have I1:Inv X pins σ H { s with heap:=h' }:=I.turned (t':=s.toks) (fun b o hb e=>(sb.2 b hb).trans e) f0 f1 f3 f4 f5
  obtain ⟨o,e,c,d⟩:=id st'
  exact ⟨u,rfl,Xn (s:={ s with heap:=h' }) e c d (by decide) ⟨x,H,I1,ru,⟨rfl,fun ys hy=>by rw [I.list_inj hy hq]; exact hx⟩,st',fun b hb=>(hf b hb).1⟩⟩
 done:=by
  intro X hP hw hK hc i pins s σ H E I hf st hg
  subst hP hw hK
  obtain ⟨xs,hq,hx⟩:=hg
  obtain ⟨its,rv,p,hz⟩:=I.list hq
  obtain ⟨f0,f1,f2,f3,f4,f5⟩:=hf it (by simp)
  have hl:=rv.length
  exact wpAny_pyNext_list_end (I.ok.hd hc) st p.isList (by simp; omega) fun h' eb=>⟨rfl,I.turned (t':=s.toks) (fun b o hb e=>eb b o hb e) f0 f1 f3 f4 f5⟩
 self:=fun _ _ _ _ _ st h=>wpAny_pyIter_listiter st h
theorem Abv {P:Program} {w:World} {K:PySem.W.Frag} {tg:Expr} (it:Addr) (lo:Int) (n:Nat):Sn P w K tg (Itr lo n) [it] it (fun i h=>IsRangeIter h it (lo + (i:Nat) * 1) ((n:Int) - (i:Nat)) 1) where
 mem:=by simp
 obj:=fun i h st b hb=>by
  have e:b = it:=by simpa using hb
  subst e
  exact ⟨_,st,fun v z=>by
   have z':Data.fields _ = Data.cell v:=z
   cases z'⟩
 keep:=fun i h h' st k=>k it (by simp) _ st
 item:=by
  intro X hP hw hK hc i pins s σ H E I hf st hg
  subst hP hw hK
  obtain ⟨f0,f1,f2,f3,f4,f5⟩:=hf it (by simp)
  have W:=Walks.range (prog:=X.prog) (w:=X.w) (I.ok.hd hc) it lo 1 n
  refine W.item i s _ _ hg st fun v h' tk hv st' kk=>?_
  obtain ⟨t,rfl⟩:=hv
  have I1:Inv X pins σ H { s with heap:=h',toks:=tk }:=I.turned (fun b o hb e=>kk b o (by simpa using hb) e) f0 f1 f3 f4 f5
  refine ⟨_,rfl,Xn (s:={ s with heap:=h',toks:=tk }) (n:="range_iterator") st' rfl rfl (by decide) ⟨.int (lo + i),H,I1,⟨t,?_⟩,⟨rfl,rfl⟩,st',fun b hb=>(hf b hb).1⟩⟩
  rw [Int.mul_one]
 done:=by
  intro X hP hw hK hc i pins s σ H E I hf st hg
  subst hP hw hK
  obtain ⟨f0,f1,f2,f3,f4,f5⟩:=hf it (by simp)
  exact wpAny_pyNext_range_end (I.ok.hd hc) st (by have:n <= i:=hg; omega) fun h' eb=>⟨rfl,I.turned (t':=s.toks) (fun b o hb e=>eb b o hb e) f0 f1 f3 f4 f5⟩
 self:=fun _ _ _ _ _ st h=>wpAny_pyIter_rangeiter st h
end L2
namespace L2
open PySem PySem.Spec PyProof.Rows
section
variable {X:Cx} {tg:Expr}
def Tj (K:PySem.W.Frag) (tl:TE):TI:=fun σ H R=>tl σ H fun x H1=>∃ a,x = .ref a/\(∃ xs,SqL K H1 a xs)/\R (Itl K a) H1
theorem Cq {l:Expr} {tl:TE} (hl:PE X l tl):PI X tg l (Tj X.K tl):=by
 intro pins s σ H R I h
 refine thn (hl pins s σ H _ I h) fun v s1 ⟨x,H1,I1,r1,q1⟩=>?_
 obtain ⟨a,e,⟨xs,hq⟩,q⟩:=q1
 subst e
 cases r1
 obtain ⟨its,rv,p,hz⟩:=I1.list hq
 refine wpAny_pyIter_list p.isList ?_
 refine ⟨s1.heap.objs.size,[s1.heap.objs.size],_,_,H1,rfl,I1.kept (t':=s1.toks) fun b o e=>Heap.get?_push_of_some _ e,Adw a _,⟨_,Heap.get?_push_size _ rfl,rfl,rfl⟩,fun b hb=>?_,q⟩
 have e:b = s1.heap.objs.size:=by simpa using hb
 subst e
 exact I1.fpOk (Nat.le_refl _) (I1.hok.fresh (Nat.le_refl _))
theorem Aac {pins:List (Addr × Obj)} {σ:St} {H:Hp} {s:Shared} {R:It->Hp->Prop} {E:Value->Shared->Prop} {lo hi:Int} {t u v:Tok} {tk:Nat} (I:Inv X pins σ H s) (h1:-(2 ^ 62) <= lo) (h2:lo < 2 ^ 62) (h3:-(2 ^ 62) <= hi) (h4:hi < 2 ^ 62)
  (q:R (Itr lo (hi - lo).toNat) H):wpAny (model X.prog X.w) X.A (pyIter (.ref s.heap.objs.size)) (PIE X pins σ tg R) E { s with heap:=s.heap.push { cls:=.type "range",data:=.fields #[.int lo t,.int hi u,.int 1 v] },toks:=tk }:=by
 refine wpAny_pyIter_range (IsRange.new ..) (small_one h1 h2 h3 h4) ?_
 have I1:Inv X pins σ H { s with heap:=s.heap.push { cls:=.type "range",data:=.fields #[.int lo t,.int hi u,.int 1 v] },toks:=tk }:=I.kept fun b o e=>Heap.get?_push_of_some _ e
 refine ⟨(s.heap.push { cls:=.type "range",data:=.fields #[.int lo t,.int hi u,.int 1 v] }).objs.size,[(s.heap.push { cls:=.type "range",data:=.fields #[.int lo t,.int hi u,.int 1 v] }).objs.size],_,_,H,rfl,
  I1.kept (t':=tk) fun b o e=>Heap.get?_push_of_some _ e,Abv _ lo (hi - lo).toNat,?_,fun b hb=>?_,q⟩
 ·have e1:lo + ((0:Nat):Int) * 1 = lo:=by simp
  have e2:(((hi - lo).toNat:Nat):Int) - ((0:Nat):Int) = Builtin.Range.rangeSize lo hi 1:=by rw [rangeSize_one]; split <;> omega
  show IsRangeIter _ _ (lo + ((0:Nat):Int) * 1) ((((hi - lo).toNat:Nat):Int) - ((0:Nat):Int)) 1
  rw [e1,e2]
  exact Heap.get?_push_size _ rfl
 ·have e:b = (s.heap.push { cls:=.type "range",data:=.fields #[.int lo t,.int hi u,.int 1 v] }).objs.size:=by simpa using hb
  subst e
  exact I1.fpOk (Nat.le_refl _) (I1.hok.fresh (Nat.le_refl _))
def Ve (ta:TA):TI:=fun σ H R=>ta σ H fun vs H1=>∃ j:Int,vs = [.int j]/\-(2 ^ 62) <= j/\j < 2 ^ 62/\R (Itr 0 j.toNat) H1
def AbK (ta:TA):TI:=fun σ H R=>ta σ H fun vs H1=>∃ i j:Int,vs = [.int i,.int j]/\(-(2 ^ 62) <= i/\i < 2 ^ 62/\-(2 ^ 62) <= j/\j < 2 ^ 62)/\R (Itr i (j - i).toNat) H1
theorem Gz {a:Expr} {ta:TA} {p pos:Pos} (hg:Gl X "range") (hm:X.mg "range" = none) (ha:PA X [a] ta) (hs:starEach [a] X.env = [(false,eval a X.env)]:=by rfl):PI X tg (.Call (.Name "range" p) [a] [] pos) (Ve ta):=by
 intro pins s σ H R I h
 refine Call_ (Lf I hg hm boot_range (PyProof.Rows.callWith_type1 (thn (ha pos pins s σ H _ I h) fun us s1 ⟨vs,H1,I1,r1,q1⟩=>?_) hs rfl))
 obtain ⟨j,e,q1,q2,q⟩:=q1
 subst e
 cases r1 with
 | cons r rr =>
  cases rr
  obtain ⟨t,rfl⟩:=r
  exact call_range_1 (Aac I1 (by omega) (by omega) q1 q2 (by simpa using q))
theorem Acf {a b:Expr} {ta:TA} {p pos:Pos} (hg:Gl X "range") (hm:X.mg "range" = none) (ha:PA X [a,b] ta) (hs:starEach [a,b] X.env = [(false,eval a X.env),(false,eval b X.env)]:=by rfl) (hs2:starEach [b] X.env = [(false,eval b X.env)]:=by rfl) :
  PI X tg (.Call (.Name "range" p) [a,b] [] pos) (AbK ta):=by
 intro pins s σ H R I h
 refine Call_ (Lf I hg hm boot_range (PyProof.Rows.callWith_type1 (thn (ha pos pins s σ H _ I h) fun us s1 ⟨vs,H1,I1,r1,q1⟩=>?_) (by rw [hs,hs2]) (by rw [hs2]; rfl)))
 obtain ⟨i,j,e,⟨q1,q2,q3,q4⟩,q⟩:=q1
 subst e
 cases r1 with
 | cons r rr =>
  cases rr with
  | cons r' rr =>
   cases rr
   obtain ⟨t,rfl⟩:=r
   obtain ⟨t',rfl⟩:=r'
   exact call_range_2 (Aac I1 q1 q2 q3 q4 q)
def Qf (wi:TI) (g:TG) (tb:TS):TS:=fun D σ H=>wi σ H fun J H1=>∃ W:Nat->Nat->St->Hp->Prop,(∃ m,W 0 m σ H1)/\∀ i m σ H,W i m σ H ->
 (J.stop i H/\D.nx σ H)\/(J.go i H/\∃ N:St->Hp->Prop,(∀ σ' H',N σ' H'->∃ m',m' < m/\W (i + 1) m' σ' H')/\∀ x H',J.yld i H x H'->g x σ H' fun σ2 H2=>tb { D with nx:=N,ct:=N,bk:=D.nx } σ2 H2)
def Te (fp:List Addr) (h:Heap):List (Addr × Obj):=fp.filterMap fun b=>(h.get? b).map fun o=>(b,o)
theorem Ny {fp:List Addr} {h:Heap} {b:Addr} {o:Obj} (hb:b ∈ fp) (e:h.get? b = some o):(b,o) ∈ Te fp h:=List.mem_filterMap.mpr ⟨b,hb,by rw [e]; rfl⟩
theorem Acl {fp:List Addr} {h:Heap} {p:Addr × Obj} (hp:p ∈ Te fp h):p.1 ∈ fp/\h.get? p.1 = some p.2:=by
 obtain ⟨b,hb,e⟩:=List.mem_filterMap.mp hp
 cases q:h.get? b with
 | none=>rw [q] at e; cases e
 | some o =>
  rw [q] at e
  have e':(b,o) = p:=Option.some.inj e
  subst e'
  exact ⟨hb,q⟩
theorem Inv.pinned {pins:List (Addr × Obj)} {σ:St} {H:Hp} {s:Shared} {fp:List Addr} (I:Inv X pins σ H s) (hf:∀ b ∈ fp,Su X pins H b) (ho:∀ b ∈ fp,∃ o,s.heap.get? b = some o/\∀ v,o.data ≠ .cell v):Inv X (pins ++ Te fp s.heap) σ H s :=
 I.pins_of fun p hp=>(List.mem_append.mp hp).elim (fun z=>I.pin p (List.mem_append_right _ z)) fun z=>by
  obtain ⟨hb,e⟩:=Acl z
  obtain ⟨f0,f1,f2,_⟩:=hf p.1 hb
  obtain ⟨o,e',d⟩:=ho p.1 hb
  rw [e] at e'; cases e'
  exact ⟨e,f0,f1,f2,d⟩
theorem Inv.unpinned {pins pl:List (Addr × Obj)} {σ:St} {H:Hp} {s:Shared} (I:Inv X (pins ++ pl) σ H s):Inv X pins σ H s:=I.pins_of fun p hp=>I.pin p (List.mem_append_right _ (List.mem_append_left _ hp))
theorem Df {iter:Expr} {body:List Stmt} {wi:TI} {g:TG} {tb:TS} {pos:Pos} (hp:PassesOwn (model X.prog X.w) X.A X.env X.xe) (hc:X.calm = true) (hi:PI X tg iter wi) (hg:PG X tg g) (hb:PSs X body tb)
  (hs:∀ x,foldedSetIterable iter X.env x = pure x:=by intro _; rfl):PS X (.For tg iter body [] pos) (Qf wi g tb):=by
 intro pins s σ H D I h
 refine wpAny_For (thn (hi pins s σ H _ I h) fun v s1 h1=>thn h1 fun itv s2 h2=>?_) hs
 obtain ⟨it,fp,tn,J,H2,e,I2,T,st2,f2,W,⟨m0,w0⟩,turn⟩:=h2
 subst e
 -- what stays true of the iterator's objects through the loop
 have stat:∀ {H':Hp},(∀ b ∈ fp,H' b = none)->∀ b ∈ fp,Su X pins H' b:=fun hn b hb=>⟨hn b hb,(f2 b hb).2⟩
 refine codeAny_forLoop_any (fun n s'=>∃ i σ' H',Inv X pins σ' H' s'/\tn i s'.heap/\(∀ b ∈ fp,H' b = none)/\W i n σ' H') ?_ m0 ⟨0,σ,H2,I2,st2,fun b hb=>(f2 b hb).1,w0⟩
 rintro n s3 ⟨i,σ3,H3,I3,st3,fr3,w3⟩
 rcases turn i n σ3 H3 w3 with ⟨stop,qn⟩ | ⟨go,N,hN,step⟩
 ·refine wpAny_passesOwn hp (thn (T.done X rfl rfl rfl hc i pins s3 σ3 H3 X.xe I3 (stat fr3) st3 stop) fun r s4 ⟨hr,I4⟩=>?_)
  subst hr
  exact wpAny_execs_nil ⟨σ3,H3,I4,qn⟩
 ·refine wpAny_passesOwn hp (thn (T.item X rfl rfl rfl hc i pins s3 σ3 H3 X.xe I3 (stat fr3) st3 go) fun r s4 ⟨u,hr,h4⟩=>?_)
  subst hr
  refine wpAny_passesOwn hp (thn h4 fun _ s5 ⟨x,H5,I5,r5,y5,st5,fr5⟩=>?_)
  have I5':=I5.pinned (stat fr5) (T.obj _ _ st5)
  refine wpAny_passesOwn hp (thn (hg _ s5 σ3 H5 x u _ I5' r5 (step x H5 y5)) fun _ s6 ⟨σ6,H6,I6,q6⟩=>?_)
  refine wpAny_passesOwn hp (thn (hb _ s6 σ6 H6 _ I6 q6) fun f s7 q7=>?_)
  have again:∀ {σ7:St} {H7:Hp},Inv X (pins ++ Te fp s5.heap) σ7 H7 s7->N σ7 H7->∃ m,m < n/\∃ i σ' H',Inv X pins σ' H' s7/\tn i s7.heap/\(∀ b ∈ fp,H' b = none)/\W i m σ' H':=fun {σ7 H7} I7 n7=>by
   obtain ⟨m',hm,w7⟩:=hN σ7 H7 n7
   refine ⟨m',hm,i + 1,σ7,H7,I7.unpinned,T.keep _ _ _ st5 fun b hb o e=>(I7.pin (b,o) (List.mem_append_right _ (List.mem_append_right _ (Ny hb e)))).1,fun b hb=>?_,w7⟩
   obtain ⟨o,e,d⟩:=T.obj _ _ st5 b hb
   exact (I7.pin (b,o) (List.mem_append_right _ (List.mem_append_right _ (Ny hb e)))).2.1
  cases f with
  | next=>obtain ⟨σ7,H7,I7,n7⟩:=q7; exact again I7 n7
  | cont=>obtain ⟨σ7,H7,I7,n7⟩:=q7; exact again I7 n7
  | brk=>obtain ⟨σ7,H7,I7,q7⟩:=q7; exact ⟨σ7,H7,I7.unpinned,q7⟩
  | ret v=>obtain ⟨x7,σ7,H7,I7,r7,q7⟩:=q7; exact ⟨x7,σ7,H7,I7.unpinned,r7,q7⟩
end
theorem Uk {K:PySem.W.Frag} {a:Addr} {xs:List V} {g:TG} {tb:TS} {D:Ends} {σ:St} {H:Hp} (Pv:Nat->St->Hp->Prop) (h0:Pv 0 σ H) (hl:∀ i σ H,i <= xs.length->Pv i σ H->SqL K H a xs)
  (hs:∀ i x σ H,xs[i]? = some x->Pv i σ H->g x σ H fun σ2 H2=>tb { D with nx:=Pv (i + 1),ct:=Pv (i + 1),bk:=D.nx } σ2 H2) (hd:∀ σ H,Pv xs.length σ H->D.nx σ H) :
  ∃ W:Nat->Nat->St->Hp->Prop,(∃ m,W 0 m σ H)/\∀ i m σ H,W i m σ H ->
   ((Itl K a).stop i H/\D.nx σ H)\/((Itl K a).go i H/\∃ N:St->Hp->Prop,(∀ σ' H',N σ' H'->∃ m',m' < m/\W (i + 1) m' σ' H')/\∀ x H',(Itl K a).yld i H x H'->g x σ H' fun σ2 H2=>tb { D with nx:=N,ct:=N,bk:=D.nx } σ2 H2):=by
 refine ⟨fun i m σ H=>m = xs.length - i/\i <= xs.length/\Pv i σ H,⟨xs.length,by simp,Nat.zero_le _,h0⟩,?_⟩
 rintro i m σ H ⟨rfl,hi,p⟩
 have q:=hl i σ H hi p
 by_cases hlt:i < xs.length
 ·refine .inr ⟨⟨xs,xs[i],q,by simp [hlt]⟩,Pv (i + 1),fun σ' H' p'=>⟨xs.length - (i + 1),by omega,rfl,hlt,p'⟩,fun x H' y=>?_⟩
  obtain ⟨e,y⟩:=y
  subst e
  exact hs i x σ _ (y xs q) p
 ·have e:i = xs.length:=by omega
  subst e
  exact .inl ⟨⟨xs,q,Nat.le_refl _⟩,hd σ H p⟩
theorem Ws {lo:Int} {n:Nat} {g:TG} {tb:TS} {D:Ends} {σ:St} {H:Hp} (Pv:Nat->St->Hp->Prop) (h0:Pv 0 σ H)
  (hs:∀ i σ H,i < n->Pv i σ H->g (.int (lo + i)) σ H fun σ2 H2=>tb { D with nx:=Pv (i + 1),ct:=Pv (i + 1),bk:=D.nx } σ2 H2) (hd:∀ σ H,Pv n σ H->D.nx σ H) :
  ∃ W:Nat->Nat->St->Hp->Prop,(∃ m,W 0 m σ H)/\∀ i m σ H,W i m σ H ->
   ((Itr lo n).stop i H/\D.nx σ H)\/((Itr lo n).go i H/\∃ N:St->Hp->Prop,(∀ σ' H',N σ' H'->∃ m',m' < m/\W (i + 1) m' σ' H')/\∀ x H',(Itr lo n).yld i H x H'->g x σ H' fun σ2 H2=>tb { D with nx:=N,ct:=N,bk:=D.nx } σ2 H2):=by
 refine ⟨fun i m σ H=>m = n - i/\i <= n/\Pv i σ H,⟨n,by simp,Nat.zero_le _,h0⟩,?_⟩
 rintro i m σ H ⟨rfl,hi,p⟩
 by_cases hlt:i < n
 ·refine .inr ⟨hlt,Pv (i + 1),fun σ' H' p'=>⟨n - (i + 1),by omega,rfl,hlt,p'⟩,fun x H' y=>?_⟩
  obtain ⟨e,y⟩:=y
  subst e y
  exact hs i σ _ hlt p
 ·have e:i = n:=by omega
  subst e
  exact .inl ⟨Nat.le_refl _,hd σ H p⟩
end L2
namespace L2
open PySem PySem.Spec PyProof.Rows
abbrev R2:=V->V->Hp->VK->Prop
def OpR (X:Cx) (f:Value->Value->Sem Value) (r:R2):Prop :=
 ∀ (pins:List (Addr × Obj)) (s:Shared) (σ:St) (H:Hp) (x y:V) (v u:Value) (Q:VK),Inv X pins σ H s->RelV x v->RelV y u->r x y H Q ->
  wpAny (model X.prog X.w) X.A (f v u) (EP X pins σ Q) X.xe s
def UnR (X:Cx) (f:Value->Sem Value) (r:V->Hp->VK->Prop):Prop :=
 ∀ (pins:List (Addr × Obj)) (s:Shared) (σ:St) (H:Hp) (x:V) (v:Value) (Q:VK),Inv X pins σ H s->RelV x v->r x H Q ->
  wpAny (model X.prog X.w) X.A (f v) (EP X pins σ Q) X.xe s
def Ou (X:Cx) (f:Value) (r:List V->Hp->VK->Prop):Prop :=
 ∀ (pins:List (Addr × Obj)) (s:Shared) (σ:St) (H:Hp) (xs:List V) (us:List Value) (Q:VK),Inv X pins σ H s->Vals xs us->r xs H Q ->
  wpAny (model X.prog X.w) X.A (call f us) (EP X pins σ Q) X.xe s
def tOp (r:R2) (ta tb:TE):TE:=fun σ H Q=>ta σ H fun x H1=>tb σ H1 fun y H2=>r x y H2 Q
def tUn (r:V->Hp->VK->Prop) (ta:TE):TE:=fun σ H Q=>ta σ H fun x H1=>r x H1 Q
def rI (C:Int->Int->Prop) (g:Int->Int->V):R2:=fun x y H Q=>∃ i j,x = .int i/\y = .int j/\C i j/\Q (g i j) H
def rI0 (g:Int->Int->V):R2:=fun x y H Q=>∃ i j,x = .int i/\y = .int j/\Q (g i j) H
def rU (g:Int->V):V->Hp->VK->Prop:=fun x H Q=>∃ i,x = .int i/\Q (g i) H
section
variable {X:Cx} {a b c:Expr} {ta tb tc:TE} {pos:Pos}
theorem Aes (ha:PE X a ta) (hb:PE X b tb) {pins:List (Addr × Obj)} {s:Shared} {σ:St} {H:Hp} {R:V->V->Hp->Prop} (I:Inv X pins σ H s)
  (h:ta σ H fun x H1=>tb σ H1 fun y H2=>R x y H2) {Q:Value->Shared->Prop} {f:Value->Value->Sem Value}
  (hf:∀ v u s2 x y H2,Inv X pins σ H2 s2->RelV x v->RelV y u->R x y H2->wpAny (model X.prog X.w) X.A (f v u) Q X.xe s2) :
  wpAny (model X.prog X.w) X.A (eval a X.env) (fun v s₁=>wpAny (model X.prog X.w) X.A (eval b X.env) (fun u s₂=>wpAny (model X.prog X.w) X.A (f v u) Q X.xe s₂) X.xe s₁) X.xe s:=by
 refine thn (ha pins s σ H _ I h) fun v s1 ⟨x,H1,I1,r1,q1⟩=>?_
 refine thn (hb pins s1 σ H1 _ I1 q1) fun u s2 ⟨y,H2,I2,r2,q2⟩=>?_
 exact hf v u s2 x y H2 I2 r1 r2 q2
theorem Bo {op:Operator} {r:R2} (ho:OpR X (binaryOp op) r) (ha:PE X a ta) (hb:PE X b tb):PE X (.BinOp a op b pos) (tOp r ta tb):=by
 intro pins s σ H Q I h
 exact wpAny_BinOp (Aes ha hb I h fun v u s2 x y H2 I2 rx ry q=>ho pins s2 σ H2 x y v u Q I2 rx ry q)
theorem AfY {op:UnaryOp} {r:V->Hp->VK->Prop} (ho:UnR X (unaryOp op) r) (ha:PE X a ta):PE X (.UnaryOp op a pos) (tUn r ta):=by
 intro pins s σ H Q I h
 exact UnaryOp_ (thn (ha pins s σ H _ I h) fun v s1 ⟨x,H1,I1,r1,q1⟩=>ho pins s1 σ H1 x v Q I1 r1 q1)
theorem opI {f:Value->Value->Sem Value} {C:Int->Int->Prop} {g:Int->Int->Int}
  (rule:∀ (i j:Int) (t u:Tok) (s:Shared) (Q:Value->Shared->Prop) (E:Value->Shared->Prop),C i j->Q (.int (g i j) s.toks) { s with toks:=s.toks + 1 }->wpAny (model X.prog X.w) X.A (f (.int i t) (.int j u)) Q E s) :
  OpR X f (rI C fun i j=>.int (g i j)):=by
 intro pins s σ H x y v u Q I rx ry h
 obtain ⟨i,j,rfl,rfl,hc,q⟩:=h
 obtain ⟨t,rfl⟩:=rx
 obtain ⟨t',rfl⟩:=ry
 exact rule i j t t' s _ _ hc ⟨.int (g i j),H,I.tok _,⟨_,rfl⟩,q⟩
theorem AjO {f:Value->Value->Sem Value} {g:Int->Int->Int}
  (rule:∀ (i j:Int) (t u:Tok) (s:Shared) (Q:Value->Shared->Prop) (E:Value->Shared->Prop),Q (.int (g i j) s.toks) { s with toks:=s.toks + 1 }->wpAny (model X.prog X.w) X.A (f (.int i t) (.int j u)) Q E s) :
  OpR X f (rI0 fun i j=>.int (g i j)):=by
 intro pins s σ H x y v u Q I rx ry h
 obtain ⟨i,j,rfl,rfl,q⟩:=h
 obtain ⟨t,rfl⟩:=rx
 obtain ⟨t',rfl⟩:=ry
 exact rule i j t t' s _ _ ⟨.int (g i j),H,I.tok _,⟨_,rfl⟩,q⟩
theorem Aed {f:Value->Value->Sem Value} {g:Int->Int->Bool}
  (rule:∀ (i j:Int) (t u:Tok) (s:Shared) (Q:Value->Shared->Prop) (E:Value->Shared->Prop),Q (.bool (g i j)) s->wpAny (model X.prog X.w) X.A (f (.int i t) (.int j u)) Q E s) :
  OpR X f (rI0 fun i j=>.bl (g i j)):=by
 intro pins s σ H x y v u Q I rx ry h
 obtain ⟨i,j,rfl,rfl,q⟩:=h
 obtain ⟨t,rfl⟩:=rx
 obtain ⟨t',rfl⟩:=ry
 exact rule i j t t' s _ _ ⟨.bl (g i j),H,I,rfl,q⟩
def Op (i j:Int):Prop:=0 < j/\j < 1073741824
def Abq (i j:Int):Prop:=0 <= j/\j <= 1000000/\i.natAbs < 2 ^ 64
def CMul (i j:Int):Prop:=(-(2 ^ 64) < i/\i < 2 ^ 64)\/(-(2 ^ 64) < j/\j < 2 ^ 64)
theorem CMul.ok {i j:Int} (h:CMul i j):IntMulOk i j:=by
 rcases h with ⟨h1,h2⟩ | ⟨h1,h2⟩
 ·exact .of_left (intBits_le_64 h1 h2)
 ·exact .of_right (intBits_le_64 h1 h2)
theorem Ga:OpR X (binaryOp .Add) (rI0 fun i j=>.int (i + j)):=AjO fun _ _ _ _ _ _ _ q=>add_int q
theorem Sv:OpR X (binaryOp .Sub) (rI0 fun i j=>.int (i - j)):=AjO fun _ _ _ _ _ _ _ q=>sub_int q
theorem Ux:OpR X (binaryOp .Mult) (rI CMul fun i j=>.int (i * j)):=opI fun _ _ _ _ _ _ _ hc q=>mul_int q hc.ok
theorem Fe:OpR X (binaryOp .FloorDiv) (rI Op fun i j=>.int (i / j)):=opI fun i j _ _ _ _ _ hc q=>by
 have h1:(0:Int) < j:=hc.1
 have h2:j < 1073741824:=hc.2
 exact floordiv_int (by omega) (by rw [Int.fdiv_eq_ediv_of_nonneg i (by omega)]; exact q) (.inl (PyProof.noPylong_small (by omega)))
theorem Cv:OpR X (binaryOp .Mod) (rI (fun _ j=>0 < j) fun i j=>.int (i % j)):=opI fun i j _ _ _ _ _ hc q=>by
 have h1:(0:Int) < j:=hc
 exact mod_int' (by omega) (by rw [Int.fmod_eq_emod_of_nonneg i (by omega)]; exact q)
theorem Lb:OpR X (binaryOp .Pow) (rI Abq fun i j=>.int (i ^ j.toNat)):=opI fun _ _ _ _ _ _ _ hc q=>pow_int_small hc.1 hc.2.1 hc.2.2 q
theorem unI {f:Value->Sem Value} {g:Int->Int}
  (rule:∀ (i:Int) (t:Tok) (s:Shared) (Q:Value->Shared->Prop) (E:Value->Shared->Prop),Q (.int (g i) s.toks) { s with toks:=s.toks + 1 }->wpAny (model X.prog X.w) X.A (f (.int i t)) Q E s) :
  UnR X f (rU fun i=>.int (g i)):=by
 intro pins s σ H x v Q I rx h
 obtain ⟨i,rfl,q⟩:=h
 obtain ⟨t,rfl⟩:=rx
 exact rule i t s _ _ ⟨.int (g i),H,I.tok _,⟨_,rfl⟩,q⟩
theorem Ac9:UnR X (unaryOp .USub) (rU fun i=>.int (-i)):=unI fun _ _ _ _ _ q=>neg_int q
end
def AhZ:V->V->Bool
 | .non,.non=>true | .non,.int _=>true | .int _,.non=>true | .non,.bl _=>true | .bl _,.non=>true | .non,.str _=>true | .str _,.non=>true
 | .int _,.int _=>true | .bl _,.bl _=>true | .str _,.str _=>true | .byt _,.byt _=>true
 | .int _,.str _=>true | .str _,.int _=>true | .bl _,.str _=>true | .str _,.bl _=>true
 | _,_=>false
def rEq:R2:=fun x y H Q=>AhZ x y = true/\Q (.bl (decide (x = y))) H
def rNe:R2:=fun x y H Q=>AhZ x y = true/\Q (.bl (!decide (x = y))) H
theorem AaC {i j:Int}:decide (V.int i = V.int j) = (i == j):=by
 rw [Bool.eq_iff_iff]
 simp
theorem Xz {i j:Bool}:decide (V.bl i = V.bl j) = (i == j):=by
 rw [Bool.eq_iff_iff]
 simp
theorem Aas {i j:Str}:decide (V.str i = V.str j) = (i == j):=by
 rw [Bool.eq_iff_iff]
 simp
theorem AaN {i j:Array UInt8}:decide (V.byt i = V.byt j) = (i.toList == j.toList):=by
 rw [Bool.eq_iff_iff]
 cases i
 cases j
 simp
section
variable {X:Cx} {a b c:Expr} {ta tb tc:TE} {pos:Pos}
theorem Cy {pins:List (Addr × Obj)} {σ:St} {H:Hp} {s:Shared} {Q:VK} {k k':Bool} (I:Inv X pins σ H s) (q:Q (.bl k) H) (e:k = k'):EP X pins σ Q (.bool k') s:=by
 subst e
 exact ⟨.bl k,H,I,rfl,q⟩
theorem Fo:OpR X (compareOp .Eq) rEq:=by
 intro pins s σ H x y v u Q I rx ry h
 obtain ⟨hs,q⟩:=h
 cases x with
 | non =>
  cases rx
  cases y with
  | non=>cases ry; exact PySem.EqNone.eq_none_none (Cy I q (by simp))
  | bl j=>cases ry; exact PySem.EqNone.eq_none_bool (Cy I q (by simp))
  | int j=>obtain ⟨t',rfl⟩:=ry; exact PySem.EqNone.eq_none_int (Cy I q (by simp))
  | str j=>obtain ⟨t',rfl⟩:=ry; exact PySem.EqNone.eq_none_str (Cy I q (by simp))
  | _=>exact absurd (show false = true from hs) Bool.false_ne_true
 | bl i =>
  cases rx
  cases y with
  | non=>cases ry; exact PySem.EqNone.eq_bool_none (Cy I q (by simp))
  | bl j=>cases ry; exact eq_bool (Cy I q Xz)
  | str j=>obtain ⟨t',rfl⟩:=ry; exact PySem.EqMixed.eq_bool_str (Cy I q (by simp))
  | _=>exact absurd (show false = true from hs) Bool.false_ne_true
 | int i =>
  obtain ⟨t,rfl⟩:=rx
  cases y with
  | non=>cases ry; exact PySem.EqNone.eq_int_none (Cy I q (by simp))
  | int j=>obtain ⟨t',rfl⟩:=ry; exact eq_int (Cy I q AaC)
  | str j=>obtain ⟨t',rfl⟩:=ry; exact PySem.EqMixed.eq_int_str (Cy I q (by simp))
  | _=>exact absurd (show false = true from hs) Bool.false_ne_true
 | str i =>
  obtain ⟨t,rfl⟩:=rx
  cases y with
  | non=>cases ry; exact PySem.EqNone.eq_str_none (Cy I q (by simp))
  | bl j=>cases ry; exact PySem.EqMixed.eq_str_bool (Cy I q (by simp))
  | int j=>obtain ⟨t',rfl⟩:=ry; exact PySem.EqMixed.eq_str_int (Cy I q (by simp))
  | str j=>obtain ⟨t',rfl⟩:=ry; exact eq_str (Cy I q Aas)
  | _=>exact absurd (show false = true from hs) Bool.false_ne_true
 | byt i =>
  obtain ⟨t,rfl⟩:=rx
  cases y with
  | byt j=>obtain ⟨t',rfl⟩:=ry; exact PySem.W.eq_bytes (Cy I q AaN)
  | _=>exact absurd (show false = true from hs) Bool.false_ne_true
 | _=>cases y <;> exact absurd (show false = true from hs) Bool.false_ne_true
theorem Tt:OpR X (compareOp .NotEq) rNe:=by
 intro pins s σ H x y v u Q I rx ry h
 obtain ⟨hs,q⟩:=h
 cases x with
 | non =>
  cases rx
  cases y with
  | non=>cases ry; exact PySem.EqNone.ne_none_none (Cy I q (by simp))
  | bl j=>cases ry; exact PySem.EqNone.ne_none_bool (Cy I q (by simp))
  | int j=>obtain ⟨t',rfl⟩:=ry; exact PySem.EqNone.ne_none_int (Cy I q (by simp))
  | str j=>obtain ⟨t',rfl⟩:=ry; exact PySem.EqNone.ne_none_str (Cy I q (by simp))
  | _=>exact absurd (show false = true from hs) Bool.false_ne_true
 | bl i =>
  cases rx
  cases y with
  | non=>cases ry; exact PySem.EqNone.ne_bool_none (Cy I q (by simp))
  | bl j=>cases ry; exact ne_bool (Cy I q (congrArg not Xz))
  | str j=>obtain ⟨t',rfl⟩:=ry; exact PySem.EqMixed.ne_bool_str (Cy I q (by simp))
  | _=>exact absurd (show false = true from hs) Bool.false_ne_true
 | int i =>
  obtain ⟨t,rfl⟩:=rx
  cases y with
  | non=>cases ry; exact PySem.EqNone.ne_int_none (Cy I q (by simp))
  | int j=>obtain ⟨t',rfl⟩:=ry; exact ne_int (Cy I q (congrArg not AaC))
  | str j=>obtain ⟨t',rfl⟩:=ry; exact PySem.EqMixed.ne_int_str (Cy I q (by simp))
  | _=>exact absurd (show false = true from hs) Bool.false_ne_true
 | str i =>
  obtain ⟨t,rfl⟩:=rx
  cases y with
  | non=>cases ry; exact PySem.EqNone.ne_str_none (Cy I q (by simp))
  | bl j=>cases ry; exact PySem.EqMixed.ne_str_bool (Cy I q (by simp))
  | int j=>obtain ⟨t',rfl⟩:=ry; exact PySem.EqMixed.ne_str_int (Cy I q (by simp))
  | str j=>obtain ⟨t',rfl⟩:=ry; exact ne_str (Cy I q (congrArg not Aas))
  | _=>exact absurd (show false = true from hs) Bool.false_ne_true
 | byt i =>
  obtain ⟨t,rfl⟩:=rx
  cases y with
  | byt j=>obtain ⟨t',rfl⟩:=ry; exact PySem.W.ne_bytes (Cy I q (congrArg not AaN))
  | _=>exact absurd (show false = true from hs) Bool.false_ne_true
 | _=>cases y <;> exact absurd (show false = true from hs) Bool.false_ne_true
theorem AkZ:OpR X (compareOp .Lt) (rI0 fun i j=>.bl (decide (i < j))):=Aed fun _ _ _ _ _ _ _ q=>lt_int q
theorem Xi:OpR X (compareOp .Gt) (rI0 fun i j=>.bl (decide (j < i))):=Aed fun _ _ _ _ _ _ _ q=>gt_int q
theorem Agf:OpR X (compareOp .GtE) (rI0 fun i j=>.bl (decide (j <= i))):=Aed fun _ _ _ _ _ _ _ q=>ge_int q
theorem Ck (b:Expr) {op:CmpOp} (h:op ≠ .In:=by decide) (h2:op ≠ .NotIn:=by decide):behindInMarks op b = false:=by
 have e1:(op == CmpOp.In) = false:=by cases op <;> first | rfl | exact absurd rfl h
 have e2:(op == CmpOp.NotIn) = false:=by cases op <;> first | rfl | exact absurd rfl h2
 cases b <;> simp [behindInMarks,e1,e2]
theorem La {op:CmpOp} {r:R2} (ho:OpR X (compareOp op) r) (ha:PE X a ta) (hb:PE X b tb) (hm:behindInMarks op b = false):PE X (.Compare a [op] [b] pos) (tOp r ta tb):=by
 intro pins s σ H Q I h
 exact wpAny_Compare1 (Aes ha hb I h fun v u s2 x y H2 I2 rx ry q=>ho pins s2 σ H2 x y v u Q I2 rx ry q) hm
def AbZ (t:TE):TT:=fun σ H Q=>t σ H fun x H'=>∃ k,x = .bl k/\Q k H'
theorem Cl {op:CmpOp} {r:R2} (ho:OpR X (compareOp op) r) (ha:PE X a ta) (hb:PE X b tb) (hm:behindInMarks op b = false):PT X (.Compare a [op] [b] pos) (AbZ (tOp r ta tb)):=by
 intro pins s σ H Q I h
 refine wpAny_isTrue_Compare1 (thn (ha pins s σ H _ I h) fun v s1 ⟨x,H1,I1,r1,q1⟩=>thn (hb pins s1 σ H1 _ I1 q1) fun u s2 ⟨y,H2,I2,r2,q2⟩ =>
  thn (ho pins s2 σ H2 x y v u _ I2 r1 r2 q2) fun c s3 ⟨z,H3,I3,r3,k,e,q3⟩=>?_) hm
 subst e
 cases r3
 exact wpAny_truthy_bool ⟨H3,I3,q3⟩
theorem Yx:(sizeLine:Nat) < 2 ^ 63:=by rw [sizeLine_eq]; decide
theorem Ty {x:V} {us:List Value} (r:Vals [x] us):∃ u,us = [u]/\RelV x u:=by
 cases r with
 | cons r1 r2=>cases r2; exact ⟨_,rfl,r1⟩
theorem AkJ {x y:V} {us:List Value} (r:Vals [x,y] us):∃ u w',us = [u,w']/\RelV x u/\RelV y w':=by
 cases r with
 | cons r1 r2 =>
  cases r2 with
  | cons r3 r4=>cases r4; exact ⟨_,_,rfl,r1,r3⟩
end
end L2
namespace L2
open PySem PySem.Spec PyProof.Rows
structure ObjM (h:Heap) (x dx C:Addr) (mA:Str->Option Value):Prop where
 obj:h.get? x = some (PySem.W.instObj C dx)
 ns:h.Ns1 dx mA
 ne:dx ≠ x
theorem Ab9 {h:Heap} {dx:Addr} {mA:Str->Option Value} (n:h.Ns1 dx mA):∃ od,h.get? dx = some od/\∀ name,PySem.W.lookIn name od = some (mA name):=by
 obtain ⟨o,es,ep,ho,hd,hk,_,hm⟩:=n
 refine ⟨o,ho,fun name=>?_⟩
 have e:=hm name
 unfold nsFind findBy at e
 rw [<- Array.find?_toList] at e
 unfold PySem.W.lookIn
 rw [hd]
 dsimp only
 split
 ·rename_i y q
  rw [q] at e
  exact congrArg some e
 ·rename_i q
  rw [q] at e
  have a:es.toList.any (·.refKey) = false:=by
   rw [List.any_eq_false]
   intro y hy
   obtain ⟨z,t,hkey⟩:=hk y (Array.mem_toList_iff.mp hy)
   simp [DictEntry.refKey,hkey]
  have a':¬ es.toList.any (·.refKey) = true:=by rw [a]; exact Bool.false_ne_true
  rw [if_neg a']
  exact congrArg some e
theorem ObjM.look {h:Heap} {x dx C:Addr} {mA:Str->Option Value} (I:ObjM h x dx C mA):∃ od,PySem.W.InstAt h x (PySem.W.instObj C dx) C (some od)/\∀ name,PySem.W.lookIn name od = some (mA name) :=
 let ⟨od,ho,hl⟩:=Ab9 I.ns
 ⟨od,⟨I.obj,rfl,rfl,ho⟩,hl⟩
section
variable {prog:Program} {w:World} {A:Around} {E:Value->Shared->Prop} {s:Shared} {K:PySem.W.Frag} {x dx C f:Addr} {mA:Str->Option Value} {name:Str} {v:Value}
theorem AgN {expr:Bool} {Q:Value->Shared->Prop} (X:K.In s.heap) (I:ObjM s.heap x dx C mA) (hg:PySem.W.plainGet K C name = true) (hh:PySem.W.hasDictIn K C = true)
  (ha:PySem.W.findIn K (.ref C) name = some none) (hv:mA name = some v) (hv':PySem.W.handedIn v = true) (h:Q v { s with toks:=s.toks + 1 }) :
  wpAny (model prog w) A (getAttr (.ref x) name expr) Q E s:=by
 obtain ⟨od,J,hl⟩:=I.look
 exact PySem.W.get_value X J (PySem.W.plainGet_of hg).1 (PySem.W.findObj_own hh ha rfl (by rw [hl,hv])) hv' h
theorem Aeb {pl:Sem Bool} {Q:Value × List Value->Shared->Prop} (X:K.In s.heap) (I:ObjM s.heap x dx C mA) (hg:PySem.W.plainGet K C name = true)
  (hf:PySem.W.findIn K (.ref C) name = some (some (.ref f))) (ht:PySem.W.isFn K (.ref f) = true) (hv:mA name = none) (h:Q (.ref f,[.ref x]) s) :
  wpAny (model prog w) A (getMethod (.ref x) name pl) Q E s:=by
 obtain ⟨od,J,hl⟩:=I.look
 exact PySem.W.method_fn X J (PySem.W.plainGet_of hg).1 (PySem.W.plainGet_of hg).2 hf (beq_iff_eq.mp ht) (by show (PySem.W.lookIn name od).map (·.isSome) = some false; rw [hl,hv]; rfl) h
theorem Ahd {ns:List Str} {Q:Unit->Shared->Prop} (X:K.In s.heap) (I:ObjM s.heap x dx C mA)
  (hs:PySem.W.findIn K (.ref C) "__setattr__" = some (some (.builtin "object.__setattr__"))) (hp:PySem.W.plainOver K C = true) (ht:PySem.W.takerIn K C name = some none) (hh:PySem.W.hasDictIn K C = true)
  (hw:PySem.Within mA ns) (hsz:ns.length <= sizeLine)
  (h:∀ h',ObjM h' x dx C (fun y=>if y = name then some v else mA y)->Heap.SameBut dx s.heap h'->Q () { s with heap:=h',toks:=s.toks + 2 }) :
  wpAny (model prog w) A (setAttr (.ref x) name v) Q E s:=by
 obtain ⟨od,J,hl⟩:=I.look
 refine PySem.W.set_plain X J hs (PySem.W.osa_open (s:={ s with toks:=s.toks + 1 }) (r:=none) X J hp ht fun b=>?_)
 obtain ⟨cd,hc,hd'⟩:=PySem.W.any_some hh
 have hx:s.heap.get? x = some ⟨.ref C,some dx,.plain,#[]⟩:=I.obj
 refine wpAny_bind (wpAny_pure (wpAny_bind (wpAny_bind (wpAny_loadPart hx (wpAny_bind (PySem.W.Looks.here (s:={ s with toks:=s.toks + 1 }) (PySem.W.looks_clsIn X hc) ?_))))))
 rw [hd']
 refine wpAny_pure (a:=some dx) (wpAny_bind (wpAny_pure (wpAny_bind ?_)))
 refine wpAny_nsSet1 (s:={ s with toks:=s.toks + 1 }) I.ns fun h' hn2 hs2=>?_
 obtain ⟨oD,esD,epD,hoD,hdD,hcD⟩:=hn2.count (PySem.Within.cons name v hw)
 refine wpAny_bind (wpAny_lookBehind hoD (by rw [hdD]; exact pastItsLine_dict (Nat.le_trans hcD (by rw [List.length_cons]; omega))) ?_)
 exact wpAny_pure (h _ ⟨(hs2.2 _ (Ne.symm I.ne)).trans I.obj,hn2,I.ne⟩ hs2)
theorem AeG {R:Result->Shared->Prop} {vs:List Value} {kw:List (Str × Value)} (X:K.In s.heap) (hm:PySem.W.makesIn K C = true)
  (hi:PySem.W.findIn K (.ref C) "__init__" = some (some (.ref f))) (hf:PySem.W.typeIn K (.ref f) = some (.type "function"))
  (h:codeAny (model prog w) (A.under (.builtin "type.__call__" ⟨.ref C :: vs,kw⟩)) (.call (.ref f) ⟨.ref (s.heap.objs.size + 1) :: vs,kw⟩) (PySem.W.InitBack (s.heap.objs.size + 1) R)
   { s with heap:=(s.heap.push PySem.W.emptyDict).push (PySem.W.instObj C s.heap.objs.size) }) :
  codeAny (model prog w) A (.call (.ref C) ⟨vs,kw⟩) R s:=by
 obtain ⟨hh,g,d,t,os⟩:=s
 exact PySem.W.make_core (PySem.W.makes_of X hm) (PySem.W.looks_findIn X hi) (fun self=>PySem.W.bind_fn X self hf) (.inl rfl) h
end
def Bu (f:Str) (v:V):List (Str × V)->List (Str × V)
 | []=>[(f,v)]
 | (g,x) :: r=>if g = f then (g,v) :: r else (g,x) :: Bu f v r
theorem Cf (f g:Str) (v:V):∀ fs:List (Str × V),(Bu f v fs).lookup g = if g = f then some v else fs.lookup g
 | []=>by
  show List.lookup g [(f,v)] = _
  by_cases h:g = f
  ·have hb:(g == f) = true:=beq_iff_eq.mpr h
   simp only [List.lookup,hb,if_pos h]
  ·have hb:(g == f) = false:=beq_eq_false_iff_ne.mpr h
   simp only [List.lookup,hb,if_neg h]
 | (k,x) :: r=>by
  have ih:=Cf f g v r
  rw [show Bu f v ((k,x) :: r) = (if k = f then (k,v) :: r else (k,x) :: Bu f v r) from rfl]
  by_cases hk:k = f
  ·rw [if_pos hk]
   by_cases h:g = k
   ·have hb:(g == k) = true:=beq_iff_eq.mpr h
    simp only [List.lookup,hb,if_pos (h.trans hk)]
   ·have hb:(g == k) = false:=beq_eq_false_iff_ne.mpr h
    simp only [List.lookup,hb,if_neg (fun e:g = f=>h (e.trans hk.symm))]
  ·rw [if_neg hk]
   by_cases h:g = k
   ·have hb:(g == k) = true:=beq_iff_eq.mpr h
    simp only [List.lookup,hb,if_neg (fun e:g = f=>hk (h.symm.trans e))]
   ·have hb:(g == k) = false:=beq_eq_false_iff_ne.mpr h
    simp only [List.lookup,hb]
    exact ih
theorem Sz (f:Str) (v:V):∀ fs:List (Str × V),f ∈ (Bu f v fs).map (·.1)/\∀ g,g ∈ fs.map (·.1)->g ∈ (Bu f v fs).map (·.1)
 | []=>⟨by simp [Bu],fun g h=>by simp at h⟩
 | (k,x) :: r=>by
  obtain ⟨i1,i2⟩:=Sz f v r
  rw [show Bu f v ((k,x) :: r) = (if k = f then (k,v) :: r else (k,x) :: Bu f v r) from rfl]
  by_cases hk:k = f
  ·rw [if_pos hk]
   subst hk
   exact ⟨by simp,fun g h=>by simpa using h⟩
  ·rw [if_neg hk]
   refine ⟨?_,fun g h=>?_⟩
   ·rw [List.map_cons]
    exact List.mem_cons_of_mem _ i1
   ·rw [List.map_cons] at h ⊢
    rcases List.mem_cons.mp h with e | e
    ·exact List.mem_cons.mpr (.inl e)
    ·exact List.mem_cons_of_mem _ (i2 g e)
theorem Dk (f:Str) (v:V):∀ fs:List (Str × V),(Bu f v fs).length <= fs.length + 1
 | []=>by simp [Bu]
 | (k,x) :: r=>by
  have ih:=Dk f v r
  rw [show Bu f v ((k,x) :: r) = (if k = f then (k,v) :: r else (k,x) :: Bu f v r) from rfl]
  by_cases hk:k = f
  ·rw [if_pos hk,List.length_cons,List.length_cons]; omega
  ·rw [if_neg hk,List.length_cons,List.length_cons]; omega
theorem RelO.some_of {v:V} {o:Option Value} (r:RelO (some v) o):∃ u,o = some u/\RelV v u:=by
 cases o with
 | none=>exact (show False from r).elim
 | some u=>exact ⟨u,rfl,r⟩
theorem RelO.none_of {o:Option Value} (r:RelO none o):o = none:=by
 cases o with
 | none=>rfl
 | some u=>exact (show False from r).elim
theorem AdH {v:V} {u:Value} (r:RelV v u):PySem.W.handedIn u = true:=by
 cases v with
 | non=>cases (show u = Value.none from r); rfl
 | bl b=>cases (show u = Value.bool b from r); rfl
 | int i=>obtain ⟨t,e⟩:=(show ∃ t,u = Value.int i t from r); cases e; rfl
 | str x=>obtain ⟨t,e⟩:=(show ∃ t,u = Value.str x t from r); cases e; rfl
 | byt b=>obtain ⟨t,e⟩:=(show ∃ t,u = Value.bytes b t from r); cases e; rfl
 | flt b=>obtain ⟨t,e⟩:=(show ∃ t,u = Value.float b t from r); cases e; rfl
 | ref a=>cases (show u = Value.ref a from r); rfl
 | ty n=>cases (show u = Value.type n from r); rfl
section
variable {P:Program} {w:World} {H H':Hp} {h h':Heap} {a C dx:Addr} {fs fs':List (Str × V)}
theorem Qp (hok:HOk P w H h) (e:H a = some (.ins C dx fs)):∃ mA,ObjM h a dx C mA/\(∀ f,RelO (fs.lookup f) (mA f))/\PySem.Within mA (fs.map (·.1))/\fs.length <= 1000/\H dx = some (.own a):=by
 obtain ⟨d,z,ne,ob,mA,n,r,q⟩:=(show ObjOk P w H h a (.ins C dx fs) from hok a _ e)
 exact ⟨mA,⟨ob,n,ne⟩,r,q,z,d⟩
end
structure Cls (K:PySem.W.Frag) (C:Addr):Prop where
 pg:PySem.W.plainGet K C Str.empty = true
 hd:PySem.W.hasDictIn K C = true
 po:PySem.W.plainOver K C = true
 sa:PySem.W.findIn K (.ref C) "__setattr__" = some (some (.builtin "object.__setattr__"))
theorem Cls.get {K:PySem.W.Frag} {C:Addr} (c:Cls K C) (f:Str):PySem.W.plainGet K C f = true:=c.pg
def NoAttr (K:PySem.W.Frag) (C:Addr) (f:Str):Prop:=PySem.W.findIn K (.ref C) f = some none
theorem NoAttr.taker {K:PySem.W.Frag} {C:Addr} {f:Str} (n:NoAttr K C f):PySem.W.takerIn K C f = some none:=by
 unfold PySem.W.takerIn
 rw [show PySem.W.findIn K (.ref C) f = some none from n]
 rfl
structure Yz (K:PySem.W.Frag) (C:Addr) (m:Str) (f:Addr):Prop where
 at_:PySem.W.findIn K (.ref C) m = some (some (.ref f))
 fn:PySem.W.isFn K (.ref f) = true
 kp:PySem.W.keepIn K (.ref f) = true
section
variable {X:Cx} {pins:List (Addr × Obj)} {σ:St} {H:Hp} {s:Shared} {a C dx:Addr} {fs:List (Str × V)} {f:Str} {v:V} {A:Around} {E:Value->Shared->Prop}
theorem AbL {b:Bool} {Q:Value->Shared->Prop} (I:Inv X pins σ H s) (e:H a = some (.ins C dx fs)) (c:Cls X.K C) (n:NoAttr X.K C f) (l:fs.lookup f = some v)
  (h:∀ u s',Inv X pins σ H s'->RelV v u->Q u s'):wpAny (model X.prog X.w) A (getAttr (.ref a) f b) Q E s:=by
 obtain ⟨mA,O,r,_,_,_⟩:=Qp I.hok e
 obtain ⟨u,hu,ru⟩:=RelO.some_of (v:=v) (o:=mA f) (by rw [<- l]; exact r f)
 exact AgN I.kIn O (c.get f) c.hd n hu (AdH ru) (h u _ (I.tok _) ru)
theorem AbH {m:Str} {g:Addr} {pl:Sem Bool} {Q:Value × List Value->Shared->Prop} (I:Inv X pins σ H s) (e:H a = some (.ins C dx fs)) (c:Cls X.K C) (k:Yz X.K C m g) (l:fs.lookup m = none)
  (h:Q (.ref g,[.ref a]) s):wpAny (model X.prog X.w) A (getMethod (.ref a) m pl) Q E s:=by
 obtain ⟨mA,O,r,_,_,_⟩:=Qp I.hok e
 have hn:mA m = none:=RelO.none_of (by rw [<- l]; exact r m)
 exact Aeb I.kIn O (c.get m) k.at_ k.fn hn h
theorem Abp {y:V} {u:Value} {Q:Unit->Shared->Prop} (I:Inv X pins σ H s) (e:H a = some (.ins C dx fs)) (c:Cls X.K C) (n:NoAttr X.K C f) (hl:fs.length < 1000) (ry:RelV y u)
  (h:∀ s',Inv X pins σ (upd H a (.ins C dx (Bu f y fs))) s'->Q () s'):wpAny (model X.prog X.w) A (setAttr (.ref a) f u) Q E s:=by
 obtain ⟨mA,O,r,wi,_,ho⟩:=Qp I.hok e
 have hz:(fs.map (·.1)).length <= sizeLine:=by rw [List.length_map,sizeLine_eq]; omega
 refine Ahd I.kIn O c.sa c.po n.taker c.hd wi hz fun h' O' sb=>h _ ?_
 have hd:∃ o,h'.get? dx = some o:=let ⟨o,_,_,e',_⟩:=O'.ns; ⟨o,e'⟩
 refine I.write (x:=a) (e:=dx) (by rw [e]; exact True.intro) (.inr ho) (fun b q hb z=>(sb.2 b hb).trans z) hd ?_
 refine ⟨by rw [Bg O.ne]; exact ho,?_,O.ne,O'.obj,_,O'.ns,fun g=>?_,fun g hg=>?_⟩
 ·have:=Dk f y fs; omega
 ·show RelO ((Bu f y fs).lookup g) (if g = f then some u else mA g)
  rw [Cf]
  by_cases q:g = f
  ·rw [if_pos q,if_pos q]; exact ry
  ·rw [if_neg q,if_neg q]; exact r g
 ·by_cases q:g = f
  ·rw [q]; exact (Sz f y fs).1
  ·refine (Sz f y fs).2 g (wi g fun z=>hg ?_)
   show (if g = f then some u else mA g) = none
   rw [if_neg q]; exact z
theorem Inv.made (I:Inv X pins σ H s):Inv X pins σ (upd (upd H s.heap.objs.size (.own (s.heap.objs.size + 1))) (s.heap.objs.size + 1) (.ins C s.heap.objs.size []))
  { s with heap:=(s.heap.push PySem.W.emptyDict).push (PySem.W.instObj C s.heap.objs.size) }:=by
 have e1:(s.heap.push PySem.W.emptyDict).get? s.heap.objs.size = some PySem.W.emptyDict:=Heap.get?_push_size s.heap rfl
 have e2:((s.heap.push PySem.W.emptyDict).push (PySem.W.instObj C s.heap.objs.size)).get? (s.heap.objs.size + 1) = some (PySem.W.instObj C s.heap.objs.size):=by
  have:=Heap.get?_push_size (s.heap.push PySem.W.emptyDict) (o:=PySem.W.instObj C s.heap.objs.size) rfl
  rwa [Heap.size_push] at this
 have e3:(s.heap.push PySem.W.emptyDict).Ns s.heap.objs.size (fun _=>none):=⟨PySem.W.emptyDict,#[],_,e1,rfl,(fun e he=>absurd he (by simp)),fun _=>rfl⟩
 have I1:=I.laid (a:=s.heap.objs.size) (o:=.own (s.heap.objs.size + 1)) (h':=s.heap.push PySem.W.emptyDict) (t':=s.toks) (fun b u q=>Heap.get?_push_of_some _ q) (Nat.le_refl _) ⟨_,e1⟩
 refine I1.laid (a:=s.heap.objs.size + 1) (o:=.ins C s.heap.objs.size []) (t':=s.toks) (fun b u q=>Heap.get?_push_of_some _ q) (Nat.le_of_eq (Heap.size_push _ _)) ?_
 have ne:s.heap.objs.size ≠ s.heap.objs.size + 1:=Nat.ne_of_lt (Nat.lt_succ_self _)
 refine ⟨by rw [Bg ne,Bl],Nat.zero_le _,ne,e2,fun _=>none,(Heap.Ns1.of_empty e3).at fun o q=>Heap.get?_push_of_some _ q,fun _=>True.intro,fun y hy=>absurd rfl hy⟩
theorem Aax {prog:Program} {w:World} {env:Env} {e:Expr} {f:Str} {pos:Pos} {s:Shared} {Q:Value->Shared->Prop} (hb:attributeBase e f env (eval e env) = eval e env)
  (h:wpAny (model prog w) A (eval e env) (fun o s₁=>wpAny (model prog w) A (getAttr o f true) Q E s₁) E s):wpAny (model prog w) A (eval (.Attribute e f pos) env) Q E s :=
 Attribute_any_ h (by rw [arm_eval_Attribute,hb])
end
def Akf (K:PySem.W.Frag) (ta:TE) (f:Str):TE:=fun σ H Q=>ta σ H fun x H1=>∃ a C dx fs v,x = .ref a/\H1 a = some (.ins C dx fs)/\Cls K C/\NoAttr K C f/\fs.lookup f = some v/\Q v H1
def AhT (K:PySem.W.Frag) (ta tv:TE) (f:Str):TS:=fun D σ H=>tv σ H fun y H1=>ta σ H1 fun x H2=>∃ a C dx fs,x = .ref a/\H2 a = some (.ins C dx fs)/\Cls K C/\NoAttr K C f/\fs.length < 1000 /\
 D.nx σ (upd H2 a (.ins C dx (Bu f y fs)))
section
variable {X:Cx} {o e value:Expr} {f:Str} {pos pos' tpos:Pos} {ta tv:TE}
theorem Sw (he:PE X e ta) (hb:attributeBase e f X.env (eval e X.env) = eval e X.env):PE X (.Attribute e f pos) (Akf X.K ta f):=by
 intro pins s σ H Q I h
 refine Aax hb (thn (he pins s σ H _ I h) fun u s1 ⟨x,H1,I1,rx,a,C,dx,fs,v,ex,ea,c,n,l,q⟩=>?_)
 subst ex
 obtain rfl:u = Value.ref a:=rx
 exact AbL I1 ea c n l fun u' s2 I2 ru=>⟨v,H1,I2,ru,q⟩
theorem Tb (ha:PE X o ta) (hv:PE X value tv) (hs:swapsWith value (some (.Attribute o f pos')) pos.line X.env = pure false):PS X (.Assign [.Attribute o f pos'] value pos) (AhT X.K ta tv f):=by
 intro pins s σ H D I h
 refine plainObj_wpAny_Assign_Attribute (thn (hv pins s σ H _ I h) fun u s1 ⟨y,H1,I1,ry,q⟩=>thn (ha pins s1 σ H1 _ I1 q) fun ov s2 ⟨x,H2,I2,rx,a,C,dx,fs,ex,ea,c,n,l,q2⟩=>?_) hs
 subst ex
 obtain rfl:ov = Value.ref a:=rx
 exact Abp I2 ea c n l ry fun s3 I3=>⟨σ,_,I3,q2⟩
end
section
variable {X:Cx} {pins:List (Addr × Obj)} {σ:St} {H:Hp} {s:Shared} {A:Around} {E:Value->Shared->Prop} {Q:Value->Shared->Prop} {c:Value} {b:Bool}
inductive Ge (K:PySem.W.Frag) (H:Hp):V->Value->Prop where
 | non:Ge K H .non (.type "NoneType")
 | bl (x:Bool):Ge K H (.bl x) (.type "bool")
 | int (i:Int):Ge K H (.int i) (.type "int")
 | str (x:Str):Ge K H (.str x) (.type "str")
 | flt (x:UInt64):Ge K H (.flt x) (.type "float")
 | lst {a:Addr} {xs:List V} (e:H a = some (.lst xs)):Ge K H (.ref a) (.type "list")
 | frz {a:Addr} {o:Obj} {xs:List V} (e:H a = some (.frz o (.lst xs))):Ge K H (.ref a) (.type "list")
 | tup {a:Addr} {xs:List V} (e:H a = some (.tup xs)):Ge K H (.ref a) (.type "tuple")
 | dK {a:Addr} {kvs:List (Key × V)} (e:H a = some (.dK kvs)):Ge K H (.ref a) (.type "dict")
 | dT {a:Addr} {kvs:List (List Key × V)} (e:H a = some (.dT kvs)):Ge K H (.ref a) (.type "dict")
 | ins {a C dx:Addr} {fs:List (Str × V)} (e:H a = some (.ins C dx fs)) (cl:Cls K C) (ha:PySem.W.findIn K (.ref C) "__class__" = some (some (.builtin "object.__class__")))
   (hn:PySem.W.specialIn K (.builtin "object.__class__") "__get__" = some (some (.builtin "getset_descriptor.__get__"))) (htk:PySem.W.takesIn K (.builtin "object.__class__") = some true)
   (hm:PySem.W.mroIn K C (.type "object") = some true):Ge K H (.ref a) (.ref C)
theorem Ac4 {x:V} {u t:Value} (I:Inv X pins σ H s) (rx:RelV x u) (ty:Ge X.K H x t) (e:PySem.W.kitOne X.K t c = some b) (h:∀ tk,Q (.bool b) { s with toks:=tk }) :
  wpAny (model X.prog X.w) A (call (.builtin "isinstance") [u,c]) Q E s:=by
 cases ty with
 | non=>cases (show u = Value.none from rx); exact PySem.W.kia_one PySem.W.kitx_none I.kIn True.intro e (fun z=>nomatch z) h
 | bl y=>cases (show u = Value.bool y from rx); exact PySem.W.kia_one PySem.W.kitx_bool I.kIn True.intro e (fun z=>nomatch z) h
 | int i=>obtain ⟨t,q⟩:=(show ∃ t,u = Value.int i t from rx); cases q; exact PySem.W.kia_one PySem.W.kitx_int I.kIn True.intro e (fun z=>nomatch z) h
 | str y=>obtain ⟨t,q⟩:=(show ∃ t,u = Value.str y t from rx); cases q; exact PySem.W.kia_one PySem.W.kitx_str I.kIn True.intro e (fun z=>nomatch z) h
 | flt y=>obtain ⟨t,q⟩:=(show ∃ t,u = Value.float y t from rx); cases q; exact PySem.W.kia_one PySem.W.kitx_float I.kIn True.intro e (fun z=>nomatch z) h
 | @lst a xs ea =>
  cases (show u = Value.ref a from rx)
  obtain ⟨_,_,n,_,h1⟩:=(show ObjOk X.prog X.w H s.heap a (.lst xs) from I.hok a _ ea)
  exact PySem.W.kia_one PySem.W.kitx_list I.kIn ⟨_,h1,rfl⟩ e (fun z=>nomatch z) h
 | @frz a ob xs ea =>
  cases (show u = Value.ref a from rx)
  obtain ⟨_,_,_,n,_,h1⟩:=(show ObjOk X.prog X.w H s.heap a (.frz ob (.lst xs)) from I.hok a _ ea)
  exact PySem.W.kia_one PySem.W.kitx_list I.kIn ⟨_,h1,rfl⟩ e (fun z=>nomatch z) h
 | @tup a xs ea =>
  cases (show u = Value.ref a from rx)
  obtain ⟨_,_,_,p⟩:=(show ObjOk X.prog X.w H s.heap a (.tup xs) from I.hok a _ ea)
  obtain ⟨o,h1,h2,_⟩:=p
  exact PySem.W.kia_one PySem.W.kitx_tuple I.kIn ⟨o,h1,h2⟩ e (fun z=>nomatch z) h
 | @dK a kvs ea =>
  cases (show u = Value.ref a from rx)
  obtain ⟨_,_,vs,_,p⟩:=(show ObjOk X.prog X.w H s.heap a (.dK kvs) from I.hok a _ ea)
  obtain ⟨o,es,ep,h1,h2,_⟩:=p
  exact PySem.W.kia_one PySem.W.kitx_dict I.kIn ⟨o,h1,h2.1⟩ e (fun z=>nomatch z) h
 | @dT a kvs ea =>
  cases (show u = Value.ref a from rx)
  obtain ⟨_,_,xs,_,o,es,ep,h1,h2,_⟩:=(show ObjOk X.prog X.w H s.heap a (.dT kvs) from I.hok a _ ea)
  exact PySem.W.kia_one PySem.W.kitx_dict I.kIn ⟨o,h1,h2.1⟩ e (fun z=>nomatch z) h
 | @ins a C dx fs ea cl ha hn htk hm =>
  cases (show u = Value.ref a from rx)
  obtain ⟨mA,O,_⟩:=Qp I.hok ea
  obtain ⟨od,J,_⟩:=O.look
  exact PySem.W.kia_one (PySem.W.kitx_own (cl.get _) cl.hd ha hn htk hm) I.kIn J e (fun z=>nomatch z) h
end
end L2
namespace L2
open PySem PySem.Spec PyProof.Rows
structure Room (k:Nat) (A:Around):Prop where
 hd:A.handled = none
 dp:A.depth + 3 * k + 5 < recursionLimit
 un:A.units + 16 * k + 200 < cLine
theorem Room.mono {j k:Nat} {A:Around} (r:Room k A) (h:j <= k):Room j A:=⟨r.hd,by have:=r.dp; omega,by have:=r.un; omega⟩
theorem Room.deeper {k:Nat} {A:Around} (r:Room (k + 1) A) (env:Env):Room k (A.deeper env) :=
 ⟨r.hd,by have:=r.dp; show A.depth + 1 + 3 * k + 5 < _; omega,by have:=r.un; show A.units + 3 + 16 * k + 200 < _; omega⟩
theorem Room.in1 {k:Nat} {A:Around} (r:Room (k + 1) A):Room k A.in1 :=
 ⟨r.hd,by have:=r.dp; show A.depth + 3 * k + 5 < _; omega,by have:=r.un; show A.units + 1 + 16 * k + 200 < _; omega⟩
theorem AbU {A:Around} {C:Addr} {us:List Value} {kw:List (Str × Value)}:(A.under (.builtin "type.__call__" ⟨.ref C :: us,kw⟩)).depth = A.depth + 1:=by
 first | rfl | simp [Around.under,Code.weight,Code.isCreation,Code.isGuard,Code.isCaller,Code.frames,Code.isFrame,guardIds]
theorem AbG {A:Around} {C:Addr} {us:List Value} {kw:List (Str × Value)}:(A.under (.builtin "type.__call__" ⟨.ref C :: us,kw⟩)).units = A.units + 1:=by
 first | rfl | simp [Around.under,Code.cUnits,Code.frames,Code.isFrame]
theorem Room.make {k:Nat} {A:Around} (r:Room (k + 1) A) (C:Addr) (us:List Value) (kw:List (Str × Value)):Room k (A.under (.builtin "type.__call__" ⟨.ref C :: us,kw⟩)) :=
 ⟨r.hd,by have:=r.dp; rw [AbU]; omega,by have:=r.un; rw [AbG]; omega⟩
theorem Room.depth {k:Nat} {A:Around} (r:Room k A):A.depth < recursionLimit:=by have:=r.dp; omega
theorem Room.units {k:Nat} {A:Around} (r:Room k A):A.units + 64 < cLine:=by have:=r.un; omega
def Ot:TA:=fun _ H Q=>Q [] H
def Gu (ta:TE) (tr:TA):TA:=fun σ H Q=>ta σ H fun x H1=>tr σ H1 fun xs H2=>Q (x :: xs) H2
section
variable {X:Cx} {e:Expr} {es:List Expr} {te:TE} {t:TA} {pos:Pos}
theorem Bc:PA X [] Ot:=fun _ _ _ _ H Q I h=>Calls.spliced_nil ⟨[],H,I,.nil,h⟩
theorem Ba (ha:PE X e te) (hr:PA X es t) (hs:starEach (e :: es) X.env = (false,eval e X.env) :: starEach es X.env:=by rfl):PA X (e :: es) (Gu te t):=by
 intro pos pins s σ H Q I h
 rw [hs]
 show wpAny _ _ (spliced ((false,eval e X.env) :: backTo pos (starEach es X.env))) _ _ s
 refine Calls.spliced_cons (thn (ha pins s σ H _ I h) fun u s1 ⟨x,H1,I1,r1,q1⟩=>?_)
 exact thn (hr pos pins s1 σ H1 _ I1 q1) fun us s2 ⟨xs,H2,I2,r2,q2⟩=>⟨x :: xs,H2,I2,.cons r1 r2,q2⟩
def Aiy (t:TA):TE:=fun σ H Q=>t σ H fun xs H1=>xs.length <= sizeLine/\∀ p,H1 p = none->Q (.ref p) (upd H1 p (.tup xs))
theorem AjG {x1} (h:PA X es t):PE X (.Tuple es x1 pos) (Aiy t):=by
 intro pins s σ H Q I hq
 refine wpAny_Tuple_spliced (thn (h pos pins s σ H _ I hq) fun us s1 ⟨xs,H1,I1,r,z,q⟩=>⟨by rw [<- r.length]; exact z,?_⟩)
 have hf:H1 s1.heap.objs.size = none:=I1.hok.fresh (Nat.le_refl _)
 refine ⟨.ref s1.heap.objs.size,upd H1 s1.heap.objs.size (.tup xs),I1.laid (t':=s1.toks) (fun b u e=>Heap.get?_push_of_some _ e) (Nat.le_refl _) ?_,rfl,q _ hf⟩
 exact ⟨z,us,r,⟨_,Heap.get?_push_size _ rfl,rfl,_,rfl⟩⟩
end
abbrev Sp:=List V->Hp->VK->XK->Prop
abbrev CXT:=List Env->Hp->Shared->XK->Value->Shared->Prop
structure Env0 (P:Program) (w:World) (K:PySem.W.Frag) (mg:Str->Option Value) (base:Heap) (A:Around) (outer:List Env) (s:Shared) (H:Hp):Prop where
 frames:A.frames = some outer
 mod:Mod K mg base
 bs:∀ b o,base.get? b = some o->s.heap.get? b = some o/\H b = none
 bsz:base.objs.size <= s.heap.objs.size
 funs:s.heap.FunFrames base outer
 frf:∀ b ∈ frs outer,H b = none
 hok:HOk P w H s.heap
 bare:AllBare s.gens
def CE (outer:List Env) (P:Program) (w:World) (H:Hp) (s:Shared) (Q:VK) (u:Value) (s':Shared):Prop :=
 ∃ v H',s'.os = s.os/\AllBare s'.gens/\Un (frs outer) [] H H' s.heap s'.heap/\HOk P w H' s'.heap/\RelV v u/\Q v H'
def CR (CX:CXT) (outer:List Env) (P:Program) (w:World) (H:Hp) (s:Shared) (Q:VK) (E:XK) (r:Result) (s':Shared):Prop :=
 match r with
 | .ok (.ret u)=>CE outer P w H s Q u s'
 | .ok _=>False
 | .error e=>CX outer H s E e s'
structure FnOk (P:Program) (w:World) (K:PySem.W.Frag) (mg:Str->Option Value) (base:Heap) (CX:CXT) (k:Nat) (f:Addr) (fd:FuncData) (ps:List Str) (sp:Sp):Prop where
 len:∀ vs H Q E,sp vs H Q E->vs.length = ps.length
 run:∀ (A:Around) (outer:List Env) (s:Shared) (H:Hp) (args:Args) (us:List Value) (vs:List V) (Q:VK) (E:XK),Room k A->Env0 P w K mg base A outer s H->BindsTo s fd args (ps.zip us)->Vals vs us->sp vs H Q E ->
  codeAny (model P w) A (.call (.ref f) args) (CR CX outer P w H s Q E) s
theorem FnOk.imp {P:Program} {w:World} {K:PySem.W.Frag} {mg:Str->Option Value} {base:Heap} {CX:CXT} {k:Nat} {f:Addr} {fd:FuncData} {ps:List Str} {sp sp':Sp} (F:FnOk P w K mg base CX k f fd ps sp)
  (h:∀ vs H Q E,sp' vs H Q E->sp vs H Q E):FnOk P w K mg base CX k f fd ps sp' :=
 ⟨fun vs H Q E q=>F.len vs H Q E (h _ _ _ _ q),fun A outer s H args us vs Q E hr he hb hv hs=>F.run A outer s H args us vs Q E hr he hb hv (h _ _ _ _ hs)⟩
theorem Env0.make {P:Program} {w:World} {K:PySem.W.Frag} {mg:Str->Option Value} {base:Heap} {A:Around} {outer:List Env} {s:Shared} {H:Hp} (e:Env0 P w K mg base A outer s H) (C:Addr) (us:List Value) (kw:List (Str × Value)) :
  Env0 P w K mg base (A.under (.builtin "type.__call__" ⟨.ref C :: us,kw⟩)) outer s H:=⟨by first | exact e.frames | (simpa [Around.under,Code.envs,Code.isFrame,pushEnvs] using e.frames),e.mod,e.bs,e.bsz,e.funs,e.frf,e.hok,e.bare⟩
theorem Env0.in1 {P:Program} {w:World} {K:PySem.W.Frag} {mg:Str->Option Value} {base:Heap} {A:Around} {outer:List Env} {s:Shared} {H:Hp} (e:Env0 P w K mg base A outer s H) :
  Env0 P w K mg base A.in1 outer s H:=⟨e.frames,e.mod,e.bs,e.bsz,e.funs,e.frf,e.hok,e.bare⟩
section
variable {X:Cx} {pins:List (Addr × Obj)} {σ:St} {H:Hp} {s s':Shared}
theorem Inv.env0 (I:Inv X pins σ H s):Env0 X.prog X.w X.K X.mg X.base X.A X.stack s H :=
 ⟨I.ok.frames,I.ok.mod,I.bs,Nat.le_trans I.ok.bsz I.sz,I.stack,I.stkFree,I.hok,I.bare⟩
theorem Inv.after {Q:VK} {u:Value} (I:Inv X pins σ H s) (h:CE X.stack X.prog X.w H s Q u s'):EP X pins σ Q u s':=by
 obtain ⟨v,H',os,bare,un,hok,r,q⟩:=h
 obtain ⟨hh,g,d,t,os'⟩:=s'
 obtain rfl:os' = s.os:=os
 exact ⟨v,H',I.call (h':=hh) (g':=g) (d':=d) (t':=t) (ch:=[]) un hok bare (fun b z=>absurd z (by simp)),r,q⟩
end
def Oz (sp:Sp) (dvs:List V) (E:XK) (t:TA):TE:=fun σ H Q=>t σ H fun vs H1=>sp (vs ++ dvs) H1 Q E
def Uw (C:Addr) (m:Str) (sp:Sp) (dvs:List V) (E:XK) (ta:TE) (t:TA):TE:=fun σ H Q=>ta σ H fun x H1=>∃ a dx fs,x = .ref a/\H1 a = some (.ins C dx fs)/\fs.lookup m = none /\
 t σ H1 fun vs H2=>sp (x :: (vs ++ dvs)) H2 Q E
def AfD (C:Addr) (sp:Sp) (dvs:List V) (E:XK) (t:TA):TE:=fun σ H Q=>t σ H fun vs H1=>∀ x dx,H1 x = none->H1 dx = none->dx ≠ x ->
 sp (.ref x :: (vs ++ dvs)) (upd (upd H1 dx (.own x)) x (.ins C dx [])) (fun v H2=>v = .non/\Q (.ref x) H2) E
def Binds (K:PySem.W.Frag) (fd:FuncData) (ps:List Str) (ds:List Value):Prop :=
 ∀ (s:Shared) (us:List Value),K.In s.heap->(us ++ ds).length = ps.length->BindsTo s fd ⟨us,[]⟩ (ps.zip (us ++ ds))
theorem Binds.all {K:PySem.W.Frag} {fd:FuncData} {ps:List Str} (h:∀ us:List Value,us.length = ps.length->bindArgs fd ⟨us,[]⟩ = pure (ps.zip us)):Binds K fd ps []:=fun s us _ hl=>by
 rw [List.append_nil] at hl ⊢
 exact .of_eq (h us hl)
def Qm (CX:CXT) (X:Cx) (E:XK):Prop:=∀ (pins:List (Addr × Obj)) (σ:St) (H:Hp) (s:Shared) (e:Value) (s':Shared),Inv X pins σ H s->CX X.stack H s E e s'->X.xe e s'
section
variable {X:Cx} {CX:CXT} {k:Nat} {f C:Addr} {fd:FuncData} {ps:List Str} {sp:Sp} {dvs:List V} {ds:List Value} {E:XK} {x m:Str} {p pos apos:Pos} {e o:Expr} {es:List Expr} {ta:TE} {t:TA}
theorem AcY {pins:List (Addr × Obj)} {σ:St} {H:Hp} {s:Shared} {Q:VK} {us:List Value} {vs:List V} (F:FnOk X.prog X.w X.K X.mg X.base CX k f fd ps sp) (hr:Room k X.A) (hb:Binds X.K fd ps ds) (hd:Vals dvs ds) (hx:Qm CX X E)
  (I:Inv X pins σ H s) (r:Vals vs us) (h:sp (vs ++ dvs) H Q E):wpAny (model X.prog X.w) X.A (call (.ref f) us) (EP X pins σ Q) X.xe s:=by
 have r2:Vals (vs ++ dvs) (us ++ ds):=r.append hd
 have hl:(us ++ ds).length = ps.length:=by rw [<- r2.length]; exact F.len _ _ _ _ h
 refine wpAny_call (codeAny_mono (F.run X.A X.stack s H ⟨us,[]⟩ (us ++ ds) (vs ++ dvs) Q E hr I.env0 (hb s us I.kIn hl) r2 h) fun r s' hq=>?_)
 cases r with
 | error e=>exact hx pins σ H s e s' I hq
 | ok fl =>
  cases fl with
  | ret u=>exact I.after hq
  | next=>exact False.elim hq
  | brk=>exact False.elim hq
  | cont=>exact False.elim hq
theorem Bn (F:FnOk X.prog X.w X.K X.mg X.base CX k f fd ps sp) (hr:Room k X.A) (hg:Gl X x) (hm:X.mg x = some (.ref f)) (hk:PySem.W.keepIn X.K (.ref f) = true) (hb:Binds X.K fd ps ds) (hd:Vals dvs ds) (hx:Qm CX X E)
  (ha:PA X (e :: es) t) (hdb:(x == ("__debug__" : Str)) = false:=by decide) (he:starEach (e :: es) X.env = (false,eval e X.env) :: starEach es X.env:=by rfl) (hpl:(backTo pos (starEach es X.env)).any (·.1) = false:=by rfl) :
  PE X (.Call (.Name x p) (e :: es) [] pos) (Oz sp dvs E t):=by
 intro pins s σ H Q I h
 refine wpAny_Call_Name_kw (Wa I hg hm ?_ hdb)
 refine PySem.W.callWith_K (h₀:=X.base) I.ok.mod.kin hk (thn (ha pos pins s σ H _ I h) fun us s1 ⟨vs,H1,I1,r,q⟩=>⟨I1.kIn,?_⟩) he hpl
 exact AcY F hr hb hd hx I1 r q
theorem To {pl:Sem Bool} (he:PE X o ta) (c:Cls X.K C) (hm:Yz X.K C m f) (F:FnOk X.prog X.w X.K X.mg X.base CX k f fd ps sp) (hr:Room k X.A) (hb:Binds X.K fd ps ds) (hd:Vals dvs ds) (hx:Qm CX X E) (ha:PA X (e :: es) t)
  (hst:starEach (e :: es) X.env = (false,eval e X.env) :: starEach es X.env:=by rfl) (hpl:(backTo pos (starEach es X.env)).any (·.1) = false:=by rfl)
  (ht:eval (.Call (.Attribute o m apos) (e :: es) [] pos) X.env = (do
   let ov <- eval o X.env
   standAt apos.atName
   let (f,first) <- holding [ov] (getMethod ov m pl)
   callWith pos f first (backTo pos (starEach (e :: es) X.env)) (backToKw pos (keywordEach [] X.env))):=by rfl) :
  PE X (.Call (.Attribute o m apos) (e :: es) [] pos) (Uw C m sp dvs E ta t):=by
 intro pins s σ H Q I h
 refine PySem.W.methodCall_KW (pl:=pl) (thn (he pins s σ H _ I h) fun u s1 ⟨x,H1,I1,rx,a,dx,fs,ex,ea,l,q⟩=>?_) ht
 subst ex
 obtain rfl:u = Value.ref a:=rx
 refine AbH I1 ea c hm l ?_
 refine PySem.W.callWith_K (first:=[.ref a]) (h₀:=X.base) I.ok.mod.kin hm.kp (thn (ha pos pins s1 σ H1 _ I1 q) fun us s2 ⟨vs,H2,I2,r,q2⟩=>⟨I2.kIn,?_⟩) hst hpl
 exact AcY (us:=.ref a :: us) (vs:=.ref a :: vs) F hr hb hd hx I2 (.cons rfl r) q2
structure Mk (K:PySem.W.Frag) (C f:Addr):Prop where
 makes:PySem.W.makesIn K C = true
 init:PySem.W.findIn K (.ref C) "__init__" = some (some (.ref f))
 fn:PySem.W.isFn K (.ref f) = true
 kp:PySem.W.keepIn K (.ref C) = true
theorem AeH {pins:List (Addr × Obj)} {σ:St} {H:Hp} {s:Shared} {Q:VK} {us:List Value} {vs:List V} (M:Mk X.K C f) (F:FnOk X.prog X.w X.K X.mg X.base CX k f fd ps sp) (hr:Room (k + 1) X.A) (hb:Binds X.K fd ps ds) (hd:Vals dvs ds)
  (hx:Qm CX X E) (I:Inv X pins σ H s) (r:Vals vs us)
  (h:∀ x dx,H x = none->H dx = none->dx ≠ x->sp (.ref x :: (vs ++ dvs)) (upd (upd H dx (.own x)) x (.ins C dx [])) (fun v H2=>v = .non/\Q (.ref x) H2) E) :
  wpAny (model X.prog X.w) X.A (call (.ref C) us) (EP X pins σ Q) X.xe s:=by
 have hq:=h (s.heap.objs.size + 1) s.heap.objs.size (I.hok.fresh (Nat.le_succ _)) (I.hok.fresh (Nat.le_refl _)) (Nat.ne_of_lt (Nat.lt_succ_self _))
 have I2:=Inv.made (C:=C) I
 have r2:Vals (V.ref (s.heap.objs.size + 1) :: (vs ++ dvs)) (Value.ref (s.heap.objs.size + 1) :: (us ++ ds)):=.cons rfl (r.append hd)
 have hl:(Value.ref (s.heap.objs.size + 1) :: us ++ ds).length = ps.length:=by
  have e:=r2.length
  rw [F.len _ _ _ _ hq] at e
  exact e.symm
 refine wpAny_call (AeG (f:=f) I.kIn M.makes M.init (beq_iff_eq.mp M.fn) (codeAny_mono (F.run _ X.stack _ _ ⟨Value.ref (s.heap.objs.size + 1) :: us,[]⟩ (Value.ref (s.heap.objs.size + 1) :: (us ++ ds)) _ _ E (hr.make C us [])
  (I2.env0.make C us []) (hb _ (Value.ref (s.heap.objs.size + 1) :: us) I2.kIn hl) r2 hq) fun r s' hq'=>?_))
 cases r with
 | error e=>exact hx pins σ _ _ e s' I2 hq'
 | ok fl =>
  cases fl with
  | ret u =>
   obtain ⟨v,H',I3,rv,ev,q3⟩:=I2.after hq'
   subst ev
   exact ⟨rv,⟨V.ref (s.heap.objs.size + 1),H',I3,rfl,q3⟩⟩
  | next=>exact False.elim hq'
  | brk=>exact False.elim hq'
  | cont=>exact False.elim hq'
theorem AgR (M:Mk X.K C f) (F:FnOk X.prog X.w X.K X.mg X.base CX k f fd ps sp) (hr:Room (k + 1) X.A) (hg:Gl X x) (hm:X.mg x = some (.ref C)) (hb:Binds X.K fd ps ds) (hd:Vals dvs ds) (hx:Qm CX X E)
  (ha:PA X (e :: es) t) (hdb:(x == ("__debug__" : Str)) = false:=by decide) (he:starEach (e :: es) X.env = (false,eval e X.env) :: starEach es X.env:=by rfl) (hpl:(backTo pos (starEach es X.env)).any (·.1) = false:=by rfl) :
  PE X (.Call (.Name x p) (e :: es) [] pos) (AfD C sp dvs E t):=by
 intro pins s σ H Q I h
 refine wpAny_Call_Name_kw (Wa I hg hm ?_ hdb)
 refine PySem.W.callWith_K (h₀:=X.base) I.ok.mod.kin M.kp (thn (ha pos pins s σ H _ I h) fun us s1 ⟨vs,H1,I1,r,q⟩=>⟨I1.kIn,?_⟩) he hpl
 exact AeH M F hr hb hd hx I1 r q
end
def PK (X:Cx) (kws:List Keyword) (t:TA):Prop :=
 ∀ (pos:Pos) (pins:List (Addr × Obj)) (s:Shared) (σ:St) (H:Hp) (Q:List V->Hp->Prop),Inv X pins σ H s->t σ H Q->wpAny (model X.prog X.w) X.A (evalAll ((backToKw pos (keywordEach kws X.env)).map (·.2))) (AP X pins σ Q) X.xe s
section
variable {X:Cx} {CX:CXT} {k:Nat} {f C:Addr} {fd:FuncData} {ps ks:List Str} {sp:Sp} {E:XK} {x m:Str} {p pos apos kpos:Pos} {e o:Expr} {es:List Expr} {kws:List Keyword} {te ta:TE} {t tk:TA} {nm:Option Str}
theorem AiG:PK X [] Ot:=fun _ _ _ _ H Q I h=>wpAny_evalAll_nil ⟨[],H,I,.nil,h⟩
theorem Ag0 (ha:PE X e te) (hr:PK X kws t):PK X (⟨nm,e,kpos⟩ :: kws) (Gu te t):=by
 intro pos pins s σ H Q I h
 show wpAny _ _ (evalAll ((do let v <- eval e X.env; standAt pos; pure v) :: (backToKw pos (keywordEach kws X.env)).map (·.2))) _ _ s
 refine wpAny_evalAll_cons (wpAny_bind (thn (ha pins s σ H _ I h) fun u s1 ⟨x,H1,I1,r1,q1⟩=>wpAny_bind (wpAny_standAt (wpAny_pure ?_))))
 exact thn (hr pos pins s1 σ H1 _ I1 q1) fun us s2 ⟨xs,H2,I2,r2,q2⟩=>⟨x :: xs,H2,I2,.cons r1 r2,q2⟩
variable {g:List Value->List Value->List Value} {gV:List V->List V->List V}
end
structure Cb (N P:List Str) (sc:Scope):Prop where
 kind:sc.kind = .function
 co:sc.isCoroutine = false
 gen:sc.isGenerator = false
 nd:N.Nodup
 pre:N.take P.length = P
 par:∀ x ∈ P,sc.names.lookup x = some .local\/sc.names.lookup x = some .cell
 nofree:∀ y ∈ sc.names,y.2 ≠ .free
theorem Xc {kindOf:Str->Option NameKind} {x:Str}:∀ {binds:List (Str × Value)} {m:Str->Option Value},(∀ v,(x,v) ∉ binds)->bindL kindOf binds m x = m x
 | [],_,_=>rfl
 | (n,v) :: r,m,h=>by
  unfold bindL
  rw [Xc fun w hw=>h w (List.mem_cons_of_mem _ hw)]
  split
  ·have:x ≠ n:=by rintro rfl; exact h v List.mem_cons_self
   simp [this]
  ·rfl
theorem Wp {kindOf:Str->Option NameKind} {x:Str}:∀ {binds:List (Str × Value)} {m:Str->Option Value},(∀ v,(x,v) ∉ binds)->bindC kindOf binds m x = m x
 | [],_,_=>rfl
 | (n,v) :: r,m,h=>by
  unfold bindC
  rw [Wp fun w hw=>h w (List.mem_cons_of_mem _ hw)]
  split
  ·rfl
  ·have:x ≠ n:=by rintro rfl; exact h v List.mem_cons_self
   simp [this]
theorem Wj {kindOf:Str->Option NameKind} {x:Str} {v:Value}:∀ {P:List Str} {vs:List Value} {i:Nat} {m:Str->Option Value},P.Nodup->P[i]? = some x->vs[i]? = some v->kindOf x = some .local ->
  bindL kindOf (P.zip vs) m x = some v
 | [],_,_,_,_,h,_,_=>by simp at h
 | _ :: _,[],_,_,_,_,h,_=>by simp at h
 | p :: P,w :: vs,0,m,nd,h1,h2,hk=>by
  simp at h1 h2; subst h1; subst h2
  show bindL kindOf ((p,w) :: P.zip vs) m p = _
  unfold bindL
  rw [Xc fun v hv=>(List.nodup_cons.mp nd).1 (List.of_mem_zip hv).1,if_pos hk]
  simp
 | p :: P,w :: vs,i + 1,m,nd,h1,h2,hk=>by
  show bindL kindOf ((p,w) :: P.zip vs) m x = _
  unfold bindL
  exact Wj (i:=i) (List.nodup_cons.mp nd).2 (by simpa using h1) (by simpa using h2) hk
theorem Ww {kindOf:Str->Option NameKind} {x:Str} {v:Value}:∀ {P:List Str} {vs:List Value} {i:Nat} {m:Str->Option Value},P.Nodup->P[i]? = some x->vs[i]? = some v->kindOf x ≠ some .local ->
  bindC kindOf (P.zip vs) m x = some v
 | [],_,_,_,_,h,_,_=>by simp at h
 | _ :: _,[],_,_,_,_,h,_=>by simp at h
 | p :: P,w :: vs,0,m,nd,h1,h2,hk=>by
  simp at h1 h2; subst h1; subst h2
  show bindC kindOf ((p,w) :: P.zip vs) m p = _
  unfold bindC
  rw [Wp fun v hv=>(List.nodup_cons.mp nd).1 (List.of_mem_zip hv).1,if_neg hk]
  simp
 | p :: P,w :: vs,i + 1,m,nd,h1,h2,hk=>by
  show bindC kindOf ((p,w) :: P.zip vs) m x = _
  unfold bindC
  exact Ww (i:=i) (List.nodup_cons.mp nd).2 (by simpa using h1) (by simpa using h2) hk
def Qd (N:List Str) (vs:List V):St:=vs.map some ++ List.replicate (N.length - vs.length) none
def Up (CX:CXT) (P:Program) (w:World) (K:PySem.W.Frag) (mg:Str->Option Value) (base:Heap) (N:List Str) (qual:Str) (scope:Scope) (f:Addr) (cd:Value) (A:Around) (outer:List Env) (s:Shared) (H:Hp) (E:XK):Cx where
 prog:=P
 w:=w
 K:=K
 mg:=mg
 base:=base
 A:=A.deeper (envOfC qual scope s.heap.objs.size f cd)
 N:=N
 s₀:=s
 H₀:=H
 env:=envOfC qual scope s.heap.objs.size f cd
 outer:=outer
 stack:=envOfC qual scope s.heap.objs.size f cd :: outer
 ex:=[]
 calm:=true
 fn:=fun _=>true
 pn:=[]
 xe:=fun e s'=>wpAny (model P w) (A.deeper (envOfC qual scope s.heap.objs.size f cd)) (leaving (envOfC qual scope s.heap.objs.size f cd) e) (fun _ s''=>CX outer H s E e s'') (fun e' s''=>CX outer H s E e' s'') s'
theorem Zl {sc:Scope} {n:Nat} {x:Str} (h:sc.names.lookup x = some .cell):∃ c,(cellsFrom n sc.names []).lookup x = some c:=by
 have q:=PySem.W.cellsFrom_some sc.names n [] (.inl h)
 exact Option.isSome_iff_exists.mp q
theorem AdM {CX:CXT} {P:Program} {w:World} {K:PySem.W.Frag} {mg:Str->Option Value} {base:Heap} {N ps:List Str} {qual:Str} {scope:Scope} {f:Addr} {cd:Value} {A:Around} {outer:List Env} {s s1:Shared} {H:Hp} {E:XK} {us:List Value} {vs:List V}
  (S:Cb N ps scope) (hd:A.handled = none) (e0:Env0 P w K mg base A outer s H) (hl:vs.length = ps.length) (r:Vals vs us)
  (x:InCallC s s.heap.objs.size (bindL (envOfC qual scope s.heap.objs.size f cd).kindOf (ps.zip us) fun _=>none) (cellsFrom (s.heap.objs.size + 1) scope.names []) (bindC (envOfC qual scope s.heap.objs.size f cd).kindOf (ps.zip us) fun _=>none) s1) :
  Inv (Up CX P w K mg base N qual scope f cd A outer s H E) [] (Qd N vs) H s1:=by
 have hpl:ps.length <= N.length:=by have:=congrArg List.length S.pre; rw [List.length_take] at this; omega
 obtain ⟨h1,tk,rfl,hk⟩:=x.done
 have noA:∀ b:Addr,b ∉ (Up CX P w K mg base N qual scope f cd A outer s H E).ex:=fun b z=>absurd (show b ∈ ([]:List Addr) from z) (by simp)
 refine ⟨⟨e0.mod,S.kind,rfl,rfl,Nat.le_refl _,fun y z c h1 h2=>?_,fun y hy=>?_,fun y c _ h=>?_,fun _=>hd,Around.frames_deeper e0.frames,.inr ⟨rfl,rfl⟩,fun b z=>absurd z (noA b),e0.bs,e0.bsz,fun b _ _=>noA b,fun b z=>absurd z (noA b),e0.funs,e0.frf⟩,
  rfl,e0.bare,Un.kept hk,⟨_,x.toInCall.ns,fun i y v h1 h2 h3=>?_⟩,fun y c h=>⟨_,x.cell y c h⟩,e0.hok.fresh (Nat.le_refl _),fun y c h=>?_,fun p hp=>absurd (show p ∈ ([]:List (Addr × Obj)) from hp) (by simp),e0.hok.kept hk,?_⟩
 ·exact name_of_addr x.apart (PySem.mem_of_lookup h1) (PySem.mem_of_lookup h2)
 ·have hy:scope.names.lookup y = some .cell\/scope.names.lookup y = some .free:=hy
  rcases hy with hy | hy
  ·exact Zl hy
  ·exact absurd rfl (S.nofree _ (PySem.mem_of_lookup hy))
 ·exact Nat.le_of_lt (x.above y c (PySem.mem_of_lookup h))
 ·have hi:i < vs.length:=by
   unfold Qd at h2
   by_cases hi:i < vs.length
   ·exact hi
   ·rw [List.getElem?_append_right (by simpa using hi)] at h2
    rw [List.getElem?_replicate] at h2
    split at h2 <;> cases h2
  have ha:vs[i]? = some v:=by
   unfold Qd at h2
   rw [List.getElem?_append_left (by simpa using hi),List.getElem?_map] at h2
   cases e:vs[i]? with
   | none=>rw [e] at h2; cases h2
   | some a=>rw [e] at h2; cases h2; rfl
  obtain ⟨u,hu,rv⟩:=r.get ha
  have hp:ps[i]? = some y:=by
   rw [<- S.pre,List.getElem?_take_of_lt (by omega)]; exact h1
  have ndP:ps.Nodup:=by rw [<- S.pre]; exact S.nd.sublist (List.take_sublist _ _)
  refine ⟨u,rv,?_⟩
  rcases S.par y (List.mem_of_getElem? hp) with k | k
  ·exact .inl ⟨k,Wj ndP hp hu k⟩
  ·obtain ⟨c,e⟩:=Zl (n:=s.heap.objs.size + 1) k
   refine .inr ⟨.inl k,c,e,?_⟩
   have q:=x.cell y c e
   rw [Ww ndP hp hu (by show scope.names.lookup y ≠ _; rw [k]; decide)] at q
   exact q
 ·exact e0.hok.fresh (Nat.le_of_lt (x.above y c (PySem.mem_of_lookup h)))
 ·unfold Qd
  show _ = N.length
  rw [List.length_append,List.length_map,List.length_replicate]
  omega
theorem Alo {CX:CXT} {P:Program} {w:World} {K:PySem.W.Frag} {mg:Str->Option Value} {base:Heap} {k:Nat} {f:Addr} {name qual:Str} {params:Arguments} {body:List Stmt} {scope:Scope} {dV kV doc pm cdv ct oc:Value} {an od:Option Addr}
  {osl:Array (Option Value)} {N ps:List Str} {sp:Sp} (lk:K.lookup f = some ⟨oc,od,.func (PySem.W.fnOf name qual params body scope dV kV doc pm an cdv ct),osl⟩) (hcd:PySem.W.codeIn K cdv qual = true) (S:Cb N ps scope)
  (len:∀ vs H Q E,sp vs H Q E->vs.length = ps.length)
  (hbody:∀ (A:Around) (outer:List Env) (s:Shared) (H:Hp) (vs:List V) (Q:VK) (E:XK),Room k (A.deeper (envOfC qual scope s.heap.objs.size f cdv))->sp vs H Q E ->
   ∃ t,PSs (Up CX P w K mg base N qual scope f cdv A outer s H E) body t/\t { nx:=fun _ H'=>Q .non H',rt:=Q } (Qd N vs) H) :
  FnOk P w K mg base CX (k + 1) f (PySem.W.fnOf name qual params body scope dV kV doc pm an cdv ct) ps sp:=by
 refine ⟨len,fun A outer s H args us vs Q E hr e0 hb r hsp=>?_⟩
 have hl:=len _ _ _ _ hsp
 have KX:K.In s.heap:=e0.mod.kin.keeps fun b o e=>(e0.bs b o e).1
 have lim:s.heap.NoLimit:=e0.mod.nolimit.keeps fun b o e=>(e0.bs b o e).1
 have hkind:∀ y ∈ ps.zip us,scope.names.lookup y.1 = some .local\/(scope.names.lookup y.1 = some .cell/\((cellsFrom (s.heap.objs.size + 1) scope.names []).lookup y.1).isSome = true):=fun ⟨n,v⟩ hy=>by
  rcases S.par n (List.of_mem_zip hy).1 with q | q
  ·exact .inl q
  ·exact .inr ⟨q,PySem.W.cellsFrom_some _ _ _ (.inl q)⟩
 refine codeAny_call_function hr.depth (KX _ _ lk) rfl S.co S.gen rfl (PySem.W.codeRec_of KX hcd) (hb _ _ _ _ ?_)
 refine wpAny_newFunctionEnv_cells S.kind hkind fun env he s1 x=>?_
 subst he
 refine ⟨lim.keeps x.toInCall.keep,codeAny_func ?_⟩
 obtain ⟨t,ht,hq⟩:=hbody A outer s H vs Q E (hr.deeper _) hsp
 have I:Inv (Up CX P w K mg base N qual scope f cdv A outer s H E) [] (Qd N vs) H s1:=AdM S hr.hd e0 hl r x
 refine wpAny_mono (ht [] s1 (Qd N vs) H _ I hq) (fun fl s' hs=>?_) fun e s' hs=>hs
 have fin:∀ {σ':St} {H':Hp} {v:V} {u:Value},Inv (Up CX P w K mg base N qual scope f cdv A outer s H E) [] σ' H' s'->RelV v u->Q v H'->CE outer P w H s Q u s' :=
  fun {σ' H' v u} J rv q=>⟨v,H',J.os,J.bare,J.base,J.hok,rv,q⟩
 cases fl with
 | ret u =>
  obtain ⟨v,σ',H',J,rv,q⟩:=hs
  exact fin J rv q
 | next =>
  obtain ⟨σ',H',J,q⟩:=hs
  exact fin (v:=V.non) (u:=Value.none) J rfl q
 | brk =>
  obtain ⟨_,_,_,q⟩:=hs
  exact False.elim q
 | cont =>
  obtain ⟨_,_,_,q⟩:=hs
  exact False.elim q
end L2
namespace L2
open PySem PySem.Spec PyProof.Rows
section
variable {X:Cx} {x:Str} {p pos:Pos} {e:Expr} {es:List Expr} {t:TA} {id T:String} {r:List V->Hp->VK->Prop}
def tCB (r:List V->Hp->VK->Prop) (t:TA):TE:=fun σ H Q=>t σ H fun vs H1=>r vs H1 Q
theorem Cj (hc:Ou X (.builtin id) r) (hg:Gl X x) (hm:X.mg x = none) (hv:bootBuiltins x = some (.builtin id)) (ha:PA X (e :: es) t) (hn:x ≠ "__name__":=by decide) (hdb:(x == ("__debug__" : Str)) = false:=by decide)
  (he:starEach (e :: es) X.env = (false,eval e X.env) :: starEach es X.env:=by rfl) (hpl:(backTo pos (starEach es X.env)).any (·.1) = false:=by rfl):PE X (.Call (.Name x p) (e :: es) [] pos) (tCB r t):=by
 intro pins s σ H Q I h
 refine wpAny_Call_Name_kw (Lf I hg hm hv ?_ hn hdb)
 exact PyProof.Rows.callWith_builtin1 (thn (ha pos pins s σ H _ I h) fun us s1 ⟨vs,H1,I1,r1,q1⟩=>hc pins s1 σ H1 vs us Q I1 r1 q1) he hpl
theorem Gy (hc:Ou X (.type T) r) (hg:Gl X x) (hm:X.mg x = none) (hv:bootBuiltins x = some (.type T)) (ha:PA X (e :: es) t) (hn:x ≠ "__name__":=by decide) (hdb:(x == ("__debug__" : Str)) = false:=by decide)
  (he:starEach (e :: es) X.env = (false,eval e X.env) :: starEach es X.env:=by rfl) (hpl:(backTo pos (starEach es X.env)).any (·.1) = false:=by rfl):PE X (.Call (.Name x p) (e :: es) [] pos) (tCB r t):=by
 intro pins s σ H Q I h
 refine wpAny_Call_Name_kw (Lf I hg hm hv ?_ hn hdb)
 exact PyProof.Rows.callWith_type1 (thn (ha pos pins s σ H _ I h) fun us s1 ⟨vs,H1,I1,r1,q1⟩=>hc pins s1 σ H1 vs us Q I1 r1 q1) he hpl
end
end L2
namespace HT
open PySem PyProof.Rows
section
open PySem.SeqAt
open PySem.AutoSeq1 (wpAny_loadPart')
open PySem.MeetsSeq PySem.MeetsSeq2 PySem.MeetsSeq3
end
section
variable {prog:Program} {w:World} {A:Around} {E:Value->Shared->Prop} {s:Shared}
def sIx (n d:Nat):Option Int->Nat
 | none=>d
 | some v=>if v < 0 then (v + (n:Int)).toNat else min v.toNat n
theorem sIx_none (n d:Nat):sIx n d none = d:=rfl
theorem sIx_nat (n d k:Nat):sIx n d (some (k:Int)) = min k n:=by
 show (if (k:Int) < 0 then ((k:Int) + (n:Int)).toNat else min (k:Int).toNat n) = min k n
 rw [if_neg (by omega),Int.toNat_natCast]
theorem Aiv (n d:Nat) (hd:d <= n) (o:Option Int):sIx n d o <= n:=by
 cases o with
 | none=>exact hd
 | some v =>
  show (if v < 0 then (v + (n:Int)).toNat else min v.toNat n) <= n
  by_cases hv:v < 0
  ·rw [if_pos hv]; omega
  ·rw [if_neg hv]; exact Nat.min_le_right _ _
theorem AaV (v:Int) (n d:Nat):(if v < 0 then max (v + (n:Int)) 0 else min v (n:Int)) = ((sIx n d (some v):Nat):Int):=by
 show (if v < 0 then max (v + (n:Int)) 0 else min v (n:Int)) = (((if v < 0 then (v + (n:Int)).toNat else min v.toNat n):Nat):Int)
 by_cases hv:v < 0
 ·simp only [if_pos hv]; omega
 ·simp only [if_neg hv]; omega
theorem Abj (lo hi:Option Int) (n:Nat):Builtin.Slice.sliceAdjust lo hi 1 (n:Int) = (((sIx n 0 lo:Nat):Int),((sIx n n hi:Nat):Int)):=by
 have h1:¬ ((1:Int) < 0):=by omega
 unfold Builtin.Slice.sliceAdjust
 simp only [h1,if_false]
 refine Prod.ext ?_ ?_
 ·cases lo with
  | none=>rfl
  | some v=>exact AaV v n 0
 ·cases hi with
  | none=>rfl
  | some v=>exact AaV v n n
theorem AbD (i j:Nat):Builtin.Slice.slicePlaces (i:Int) (j:Int) 1 = j - i:=by
 unfold Builtin.Slice.slicePlaces
 have h1:(1:Int) > 0:=by omega
 simp only [h1,if_true,Int.ediv_one]
 split <;> omega
theorem Vr {v:Value} {o:Option Int} {Q:Option Int->Shared->Prop} (p:IsPart v o) (h:Q o s):wpAny (model prog w) A (Builtin.Slice.slicePartIndex v) Q E s:=by
 cases p with
 | none=>exact slicePart_none h
 | int i t=>exact slicePart_int h
theorem Uq {sl:Addr} {vl vu:Value} {lo hi:Option Int} {n:Nat} {Q:Int × Int × Nat->Shared->Prop} (hs:s.heap.IsSliceOf sl vl vu .none) (pl:IsPart vl lo) (pu:IsPart vu hi)
  (h:Q (((sIx n 0 lo:Nat):Int),1,sIx n n hi - sIx n 0 lo) s):wpAny (model prog w) A (Builtin.Slice.sliceApplied (.ref sl) (pure (n:Int))) Q E s:=by
 obtain ⟨os,hos,hcs,hds⟩:=id hs
 unfold Builtin.Slice.sliceApplied Builtin.Slice.sliceFields
 refine wpAny_bind (wpAny_bind (wpAny_field hos hds (x:=vl) rfl (wpAny_bind (wpAny_field hos hds (x:=vu) rfl (wpAny_bind (wpAny_field hos hds (x:=.none) rfl (wpAny_pure ?_)))))))
 refine wpAny_bind (slicePart_none ?_)
 show wpAny _ _ (if ((1:Int) == 0) = true then _ else _) _ _ s
 rw [if_neg (by decide)]
 refine wpAny_bind (Vr pl (wpAny_bind (Vr pu (wpAny_bind (wpAny_pure ?_)))))
 show wpAny _ _ (match Builtin.Slice.sliceAdjust lo hi 1 (n:Int) with | (lo,hi)=>pure (lo,(1:Int),Builtin.Slice.slicePlaces lo hi 1)) _ _ s
 rw [Abj lo hi n]
 show wpAny _ _ (pure (((sIx n 0 lo:Nat):Int),(1:Int),Builtin.Slice.slicePlaces ((sIx n 0 lo:Nat):Int) ((sIx n n hi:Nat):Int) 1)) _ _ s
 rw [AbD]
 exact wpAny_pure h
theorem AeT (xs:Array Value) (i k:Nat):((List.range k).filterMap fun (m:Nat)=>xs[((i:Int) + (m:Int) * 1).toNat]?).toArray = ((xs.toList.drop i).take k).toArray:=by
 have e:(fun (m:Nat)=>xs[((i:Int) + (m:Int) * 1).toNat]?) = fun m=>xs[i + m]?:=by
  funext m
  have:((i:Int) + (m:Int) * 1).toNat = i + m:=by omega
  rw [this]
 rw [e]
 have:=pick_run xs i k
 rw [List.filterMap_map] at this
 have e2:((fun x=>xs[x]?) ∘ fun x=>i + x) = fun m=>xs[i + m]?:=rfl
 rw [e2] at this
 rw [this]
theorem getItem_tuple_cut {t sl:Addr} {items:Array Value} {vl vu:Value} {lo hi:Option Int} {Q:Value->Shared->Prop} (ht:IsTup s.heap t items) (hs:s.heap.IsSliceOf sl vl vu .none) (pl:IsPart vl lo) (pu:IsPart vu hi)
  (hw:¬ (sIx items.size 0 lo = 0/\sIx items.size items.size hi = items.size))
  (h:Q (.ref s.heap.objs.size) { s with heap:=s.heap.push { cls:=.type "tuple",data:=.seq ((items.toList.drop (sIx items.size 0 lo)).take (sIx items.size items.size hi - sIx items.size 0 lo)).toArray } })
  (hsz:items.size <= sizeLine):wpAny (model prog w) A (getItem (.ref t) (.ref sl)) Q E s:=by
 have htake:sizeOk (.seq ((items.toList.drop (sIx items.size 0 lo)).take (sIx items.size items.size hi - sIx items.size 0 lo)).toArray):=by
  show ((items.toList.drop (sIx items.size 0 lo)).take (sIx items.size items.size hi - sIx items.size 0 lo)).toArray.size <= sizeLine
  rw [List.size_toArray,List.length_take,List.length_drop,Array.length_toList]
  omega
 have hj:sIx items.size items.size hi <= items.size:=Aiv _ _ (Nat.le_refl _) hi
 obtain ⟨os,hos,hcs,hds⟩:=id hs
 have hTs:s.TypeIs (.ref sl) "slice":=⟨os,hos,hcs⟩
 unfold getItem
 try with_reducible refine wpAny_holding ?_
 first | refine wpAny_bind (wpAny_pure ?_) | skip
 refine wpAny_bind (wpAny_sequenceKey ht.typeIs (by decide) ?_)
 refine wpAny_bind (wpAny_callSpecial?_slot (name:=Str.ofString "__getitem__") ht.typeIs PyProof.Rows.slot_tuple_getitem
  (wpAny_call_entry PyProof.Rows.slot_tuple_getitem ht.typeIs entry_tuple_getitem ?_ (args_tuple_getitem _ _)))
 show wpAny _ _ (Builtin.Tuple.tupleItemsOf (.ref t) >>= _) _ _ s
 refine wpAny_bind (tupleItemsOf_ ht ?_)
 refine wpAny_bind (wpAny_typeOf hTs ?_)
 rw [if_pos (by decide)]
 refine wpAny_bind (Uq hs pl pu ?_)
 have hno:¬ ((((sIx items.size 0 lo:Nat):Int) == 0 && (1:Int) == 1 && (sIx items.size items.size hi - sIx items.size 0 lo) == items.size) = true):=by
  intro q
  rw [Bool.and_eq_true,Bool.and_eq_true] at q
  have q1:((sIx items.size 0 lo:Nat):Int) = 0:=eq_of_beq q.1.1
  have q2:sIx items.size items.size hi - sIx items.size 0 lo = items.size:=eq_of_beq q.2
  exact hw ⟨by omega,by omega⟩
 show wpAny _ _ (if (((sIx items.size 0 lo:Nat):Int) == 0 && (1:Int) == 1 && (sIx items.size items.size hi - sIx items.size 0 lo) == items.size) = true then _ else _) _ _ s
 rw [if_neg hno,AeT]
 first
  | exact wpAny_bind (m:=Builtin.Tuple.tupleExact _) (wpAny_newObj_type (wpAny_pure ⟨_,rfl,wpAny_pure h⟩) htake)
  | exact wpAny_bind (m:=Builtin.Tuple.tupleExact _) (wpAny_newObj_type (wpAny_bind (wpAny_pure (wpAny_pure ⟨_,rfl,wpAny_pure h⟩))) htake)
  | exact wpAny_bind (wpAny_bind (m:=Builtin.Tuple.tupleExact _) (wpAny_newObj_type (wpAny_pure (wpAny_pure ⟨_,rfl,wpAny_pure h⟩)) htake))
  | exact wpAny_bind (wpAny_bind (m:=Builtin.Tuple.tupleExact _) (wpAny_newObj_type (wpAny_pure ⟨_,rfl,wpAny_pure h⟩) htake))
end
end HT
namespace L2
open PySem PySem.Spec PyProof.Rows
abbrev TO:=St->Hp->(Option Int->Hp->Prop)->Prop
def PO (X:Cx) (e:Option Expr) (t:TO):Prop :=
 ∀ (pins:List (Addr × Obj)) (s:Shared) (σ:St) (H:Hp) (Q:Option Int->Hp->Prop),Inv X pins σ H s->t σ H Q ->
  wpAny (model X.prog X.w) X.A (evalPart e X.env) (fun u s'=>∃ o H',Inv X pins σ H' s'/\IsPart u o/\Q o H') X.xe s
def Wh:TO:=fun _ H Q=>Q none H
def AbE (t:TE):TO:=fun σ H Q=>t σ H fun x H1=>∃ i,x = .int i/\Q (some i) H1
section
variable {X:Cx} {e:Expr} {te:TE} {lo hi:Option Expr} {tl th:TO} {pos p2:Pos}
theorem Dy:PO X none Wh:=by
 intro pins s σ H Q I h
 rw [evalPart_none]
 exact wpAny_pure ⟨none,H,I,.none,h⟩
theorem Da (h:PE X e te):PO X (some e) (AbE te):=by
 intro pins s σ H Q I hw
 rw [evalPart_some]
 refine thn (h pins s σ H _ I hw) fun u s1 ⟨x,H1,I1,r1,q1⟩=>?_
 obtain ⟨i,rfl,q⟩:=q1
 obtain ⟨t,rfl⟩:=r1
 exact ⟨some i,H1,I1,.int i t,q⟩
def SlR (X:Cx) (r:V->Option Int->Option Int->Hp->VK->Prop):Prop :=
 ∀ (pins:List (Addr × Obj)) (s:Shared) (σ:St) (H:Hp) (x:V) (v vl vu:Value) (lo hi:Option Int) (sl:Addr) (Q:VK),Inv X pins σ H s->RelV x v->s.heap.IsSliceOf sl vl vu .none->IsPart vl lo->IsPart vu hi->r x lo hi H Q ->
  ∃ T id,typeLookup (.type T) "__getitem__" = pure (some (.builtin id))/\s.TypeIs v T/\wpAny (model X.prog X.w) X.A (getItem v (.ref sl)) (EP X pins σ Q) X.xe s
def tSl (r:V->Option Int->Option Int->Hp->VK->Prop) (te:TE) (tl th:TO):TE:=fun σ H Q=>te σ H fun x H1=>tl σ H1 fun l H2=>th σ H2 fun u H3=>r x l u H3 Q
theorem Di {r:V->Option Int->Option Int->Hp->VK->Prop} (hr:SlR X r) (he:PE X e te) (hl:PO X lo tl) (hu:PO X hi th):PE X (.Subscript e (.Slice lo hi none p2) pos) (tSl r te tl th):=by
 intro pins s σ H Q I h
 refine Subscript_ (thn (he pins s σ H _ I h) fun v s1 ⟨x,H1,I1,r1,q1⟩=>?_)
 refine wpAny_Slice (thn (hl pins s1 σ H1 _ I1 q1) fun vl s2 ⟨l,H2,I2,pl,q2⟩=>thn (hu pins s2 σ H2 _ I2 q2) fun vu s3 ⟨u,H3,I3,pu,q3⟩=>?_)
 rw [evalPart_none]
 refine wpAny_pure ?_
 have I4:Inv X pins σ H3 { s3 with heap:=s3.heap.push { cls:=.type "slice",data:=.fields #[vl,vu,.none] } }:=I3.kept (t':=s3.toks) fun b ob q=>Heap.get?_push_of_some _ q
 obtain ⟨T,id,hT,ht,hg⟩:=hr pins { s3 with heap:=s3.heap.push { cls:=.type "slice",data:=.fields #[vl,vu,.none] } } σ H3 x v vl vu l u s3.heap.objs.size Q I4 r1 (Heap.IsSliceOf.new ..) pl pu q3
 show wpAny (model X.prog X.w) X.A (subscriptTail e (.Slice lo hi none p2) v (.ref s3.heap.objs.size)) (EP X pins σ Q) X.xe { s3 with heap:=s3.heap.push { cls:=.type "slice",data:=.fields #[vl,vu,.none] } }
 exact tail_any (ops:=[.ref s3.heap.objs.size,v]) ht hT hg (by with_unfolding_all rfl)
def Jq (xs:List V) (lo hi:Option Int):List V:=(xs.drop (HT.sIx xs.length 0 lo)).take (HT.sIx xs.length xs.length hi - HT.sIx xs.length 0 lo)
theorem Ue (xs:List V) (lo hi:Option Int):(Jq xs lo hi).length <= xs.length:=by
 unfold Jq
 rw [List.length_take,List.length_drop]
 omega
def AlD (K:PySem.W.Frag):V->Option Int->Option Int->Hp->VK->Prop:=fun x lo hi H Q=>∃ a xs,x = .ref a/\SqT K H a xs /\
 ¬ (HT.sIx xs.length 0 lo = 0/\HT.sIx xs.length xs.length hi = xs.length)/\∀ p,H p = none->Q (.ref p) (upd H p (.tup (Jq xs lo hi)))
theorem Aj0:SlR X (AlD X.K):=by
 intro pins s σ H x v vl vu lo hi sl Q I rx hs pl pu h
 obtain ⟨a,xs,rfl,hx,hw,q⟩:=h
 cases rx
 obtain ⟨its,r,ht,hz⟩:=I.tuple hx
 have hlen:its.toArray.size = xs.length:=by rw [List.size_toArray]; exact r.length.symm
 refine ⟨"tuple",_,PyProof.Rows.slot_tuple_getitem.lookup,ht.typeIs,?_⟩
 refine HT.getItem_tuple_cut ht hs pl pu (by rw [hlen]; exact hw) ?_ (by rw [hlen]; exact hz)
 rw [hlen]
 refine ⟨.ref s.heap.objs.size,_,I.laid (t':=s.toks) (o:=.tup (Jq xs lo hi)) (fun b ob q=>Heap.get?_push_of_some _ q) (Nat.le_refl _) ?_,rfl,q _ (I.hok.fresh (Nat.le_refl _))⟩
 exact ⟨Nat.le_trans (Ue xs lo hi) hz,_,(r.drop (HT.sIx xs.length 0 lo)).take (HT.sIx xs.length xs.length hi - HT.sIx xs.length 0 lo),IsTup.new _ _⟩
end
end L2
namespace L2
open PySem PySem.Spec PyProof.Rows
def ixN (n:Nat) (i:Int):Option Nat:=if 0 <= i then (if i < n then some i.toNat else none) else if -(n:Int) <= i then some (i + n).toNat else none
def atI {α:Type} (xs:List α) (i:Int):Option α:=(ixN xs.length i).bind fun j=>xs[j]?
theorem AhB {n:Nat} {i:Int} {j:Nat} (h:ixN n i = some j):seqIndex? i n = some j/\j < n/\-(n:Int) <= i/\i < n:=by
 unfold ixN at h
 by_cases h0:0 <= i
 ·rw [if_pos h0] at h
  by_cases h1:i < n
  ·rw [if_pos h1] at h
   have e:i.toNat = j:=Option.some.inj h
   exact ⟨by rw [seqIndex_of h0 h1,e],by omega,by omega,h1⟩
  ·rw [if_neg h1] at h; cases h
 ·rw [if_neg h0] at h
  by_cases h1:-(n:Int) <= i
  ·rw [if_pos h1] at h
   have e:(i + n).toNat = j:=Option.some.inj h
   exact ⟨by rw [seqIndex_neg (by omega) h1,e],by omega,h1,by omega⟩
  ·rw [if_neg h1] at h; cases h
theorem Aav {α:Type} {xs:List α} {i:Int} {v:α} (h:atI xs i = some v):∃ j,seqIndex? i xs.length = some j/\xs[j]? = some v/\j < xs.length/\-(xs.length:Int) <= i/\i < xs.length:=by
 unfold atI at h
 cases e:ixN xs.length i with
 | none=>rw [e] at h; cases h
 | some j =>
  rw [e] at h
  obtain ⟨h1,h2,h3,h4⟩:=AhB e
  exact ⟨j,h1,h,h2,h3,h4⟩
theorem Dh {α:Type} {xs:List α} {j:Nat} {v:α} (h:xs[j]? = some v):atI xs (j:Int) = some v:=by
 have hj:j < xs.length:=(List.getElem?_eq_some_iff.mp h).1
 have e:ixN xs.length (j:Int) = some j:=by
  unfold ixN
  rw [if_pos (by omega),if_pos (by omega)]; simp
 unfold atI; rw [e]; exact h
def AhH (b:Expr):Prop:=∀ o i,subscripted b false o i = operate [o,i] (getItem o i)
def IxR (X:Cx) (r:R2):Prop :=
 ∀ (value slice:Expr) (pins:List (Addr × Obj)) (s:Shared) (σ:St) (H:Hp) (x y:V) (v u:Value) (Q:VK),Inv X pins σ H s->RelV x v->RelV y u->r x y H Q ->
  subscripted slice false v u = operate [v,u] (getItem v u)->wpAny (model X.prog X.w) X.A (subscriptTail value slice v u) (EP X pins σ Q) X.xe s
def MtR (X:Cx) (id:String) (r:V->List V->Hp->VK->Prop):Prop :=
 ∀ (pins:List (Addr × Obj)) (s:Shared) (σ:St) (H:Hp) (x:V) (xs:List V) (v:Value) (us:List Value) (Q:VK),Inv X pins σ H s->RelV x v->Vals xs us->r x xs H Q ->
  wpAny (model X.prog X.w) X.A (call (.builtin id) (v :: us)) (EP X pins σ Q) X.xe s
section
variable {X:Cx} {a b:Expr} {ta tb:TE} {pos:Pos}
theorem Ca {r:R2} (hr:IxR X r) (ha:PE X a ta) (hb:PE X b tb) (hs:AhH b):PE X (.Subscript a b pos) (tOp r ta tb):=by
 intro pins s σ H Q I h
 exact Subscript_ (Aes ha hb I h fun v u s2 x y H2 I2 rx ry q=>hr a b pins s2 σ H2 x y v u Q I2 rx ry q (hs _ _))
def AbY (K:PySem.W.Frag):R2:=fun x y H Q=>∃ p xs i v,x = .ref p/\y = .int i/\SqL K H p xs/\atI xs i = some v/\Q v H
def AbW (K:PySem.W.Frag):R2:=fun x y H Q=>∃ p xs i v,x = .ref p/\y = .int i/\SqT K H p xs/\atI xs i = some v/\Q v H
theorem Du:IxR X (AbY X.K):=by
 intro value slice pins s σ H x y v u Q I rx ry h hs
 obtain ⟨p,xs,i,z,rfl,rfl,hq,he,q⟩:=h
 cases rx
 obtain ⟨t,rfl⟩:=ry
 obtain ⟨its,r,pl,hz⟩:=I.list hq
 obtain ⟨j,h1,h2,h3,h4,h5⟩:=Aav he
 obtain ⟨w,ew,rw'⟩:=r.get h2
 have hl:=r.length
 have hn:=Yx
 have fin:EP X pins σ Q w s:=⟨z,H,I,rw',q⟩
 by_cases h0:0 <= i
 ·have hj:i.toNat = j:=by
   rw [seqIndex_of h0 h5] at h1
   exact Option.some.inj h1
  exact item_listR pl.isList h0 (by omega) (by rw [hj]; simpa using ew) fin hs
 ·have hj:(i + (its.toArray.size:Int)).toNat = j:=by
   rw [seqIndex_neg (by omega) h4] at h1
   rw [List.size_toArray,<- hl]
   exact Option.some.inj h1
  exact subscriptTail_builtinR (x:=w) pl.isList.typeIs slot_list_getitem.lookup
   (wpAny_getItem_list_neg (Q:=fun r s'=>r = w/\EP X pins σ Q r s') pl.isList (by omega) (by rw [List.size_toArray] <;> omega) (by omega) (by rw [hj]; simpa using ew) ⟨rfl,fin⟩) hs
theorem Sr:IxR X (AbW X.K):=by
 intro value slice pins s σ H x y v u Q I rx ry h hs
 obtain ⟨p,xs,i,z,rfl,rfl,hq,he,q⟩:=h
 cases rx
 obtain ⟨t,rfl⟩:=ry
 obtain ⟨its,r,pl,hz⟩:=I.tuple hq
 obtain ⟨j,h1,h2,h3,h4,h5⟩:=Aav he
 obtain ⟨w,ew,rw'⟩:=r.get h2
 have hl:=r.length
 have hn:=Yx
 have fin:EP X pins σ Q w s:=⟨z,H,I,rw',q⟩
 exact subscriptTail_builtinR (x:=w) pl.typeIs slot_tuple_getitem.lookup
  (getItem_tuple (j:=j) (Q:=fun r s'=>r = w/\EP X pins σ Q r s') pl (by omega) (by omega) (by rw [List.size_toArray,<- hl]; exact h1) (by simpa using ew) ⟨rfl,fin⟩) hs
theorem Zu (lo hi:Option Int) (n:Nat):(sliceBounds lo hi none n).1 = ((HT.sIx n 0 lo:Nat):Int)/\(sliceBounds lo hi none n).2.1 = ((HT.sIx n n hi:Nat):Int)/\(sliceBounds lo hi none n).2.2 = 1:=by
 refine ⟨?_,?_,rfl⟩
 ·cases lo with
  | none=>simp [sliceBounds,HT.sIx]
  | some i =>
   simp only [sliceBounds,HT.sIx,Option.getD_none,show (1:Int) > 0 by decide,if_true]
   by_cases h:i < 0
   ·simp only [h,if_true] <;> omega
   ·simp only [h,if_false] <;> omega
 ·cases hi with
  | none=>simp [sliceBounds,HT.sIx]
  | some i =>
   simp only [sliceBounds,HT.sIx,Option.getD_none,show (1:Int) > 0 by decide,if_true]
   by_cases h:i < 0
   ·simp only [h,if_true] <;> omega
   ·simp only [h,if_false] <;> omega
theorem Xf (its:List Value) (lo hi:Option Int):slicePick its.toArray lo hi none = ((its.drop (HT.sIx its.length 0 lo)).take (HT.sIx its.length its.length hi - HT.sIx its.length 0 lo)).toArray:=by
 obtain ⟨h1,h2,h3⟩:=Zu lo hi its.toArray.size
 unfold slicePick
 rw [h1,h2,h3]
 simp only [sliceRange_one,pick_run,List.size_toArray] <;> rfl
def Al7 (K:PySem.W.Frag):V->Option Int->Option Int->Hp->VK->Prop:=fun x lo hi H Q=>∃ a xs,x = .ref a/\SqL K H a xs/\∀ p,H p = none->Q (.ref p) (upd H p (.lst (Jq xs lo hi)))
theorem Ahe:SlR X (Al7 X.K):=by
 intro pins s σ H x v vl vu lo hi sl Q I rx hs pl pu h
 obtain ⟨a,xs,rfl,hx,q⟩:=h
 cases rx
 obtain ⟨its,r,ht,hz⟩:=I.list hx
 have hlen:=r.length
 refine ⟨"list",_,slot_list_getitem.lookup,ht.isList.typeIs,?_⟩
 refine wpAny_getItem_list_slice ht.isList hs pl pu .none (by simp) ?_ (by rw [List.size_toArray] <;> omega)
 rw [Xf,<- hlen]
 refine ⟨.ref s.heap.objs.size,_,I.laid (t':=s.toks) (o:=.lst (Jq xs lo hi)) (fun b ob q=>Heap.get?_push_of_some _ q) (Nat.le_refl _) ?_,rfl,q _ (I.hok.fresh (Nat.le_refl _))⟩
 exact ⟨Nat.le_trans (Ue xs lo hi) hz,_,0,(r.drop (HT.sIx xs.length 0 lo)).take (HT.sIx xs.length xs.length hi - HT.sIx xs.length 0 lo),Heap.get?_push_size _ rfl⟩
def Le:V->Bool
 | .non=>true
 | .bl _=>true
 | .int _=>true
 | .str _=>true
 | _=>false
def eqV:V->V->Bool
 | .non,.non=>true
 | .bl a,.bl b=>a == b
 | .bl a,.int b=>(if a then 1 else 0) == b
 | .int a,.bl b=>a == (if b then 1 else 0)
 | .int a,.int b=>a == b
 | .str a,.str b=>a == b
 | _,_=>false
theorem Adm {A:Around} {s:Shared} {y x:V} {u v:Value} (ry:RelV y u) (rx:RelV x v) (fy:Le y = true) (fx:Le x = true):SeqAt.EqAt A s u v (eqV y x):=by
 cases y with
 | non =>
  cases ry
  cases x with
  | non=>cases rx; exact SeqAt.EqAt.same _
  | bl b=>cases rx; exact SeqAt.EqAt.none_bool b
  | int b=>obtain ⟨t,rfl⟩:=rx; exact SeqAt.EqAt.none_int b t
  | str b=>obtain ⟨t,rfl⟩:=rx; exact SeqAt.EqAt.none_str b t
  | _=>exact absurd (show false = true from fx) Bool.false_ne_true
 | bl a =>
  cases ry
  cases x with
  | non=>cases rx; exact SeqAt.EqAt.bool_none a
  | bl b=>cases rx; exact SeqAt.EqAt.bool_bool a b
  | int b=>obtain ⟨t,rfl⟩:=rx; exact SeqAt.EqAt.bool_int a b t
  | str b=>obtain ⟨t,rfl⟩:=rx; exact SeqAt.EqAt.bool_str a b t
  | _=>exact absurd (show false = true from fx) Bool.false_ne_true
 | int a =>
  obtain ⟨t',rfl⟩:=ry
  cases x with
  | non=>cases rx; exact SeqAt.EqAt.int_none a t'
  | bl b=>cases rx; exact SeqAt.EqAt.int_bool a t' b
  | int b=>obtain ⟨t,rfl⟩:=rx; exact SeqAt.EqAt.int_int a t' b t
  | str b=>obtain ⟨t,rfl⟩:=rx; exact SeqAt.EqAt.int_str a t' b t
  | _=>exact absurd (show false = true from fx) Bool.false_ne_true
 | str a =>
  obtain ⟨t',rfl⟩:=ry
  cases x with
  | non=>cases rx; exact SeqAt.EqAt.str_none a t'
  | bl b=>cases rx; exact SeqAt.EqAt.str_bool a t' b
  | int b=>obtain ⟨t,rfl⟩:=rx; exact SeqAt.EqAt.str_int a t' b t
  | str b=>obtain ⟨t,rfl⟩:=rx; exact SeqAt.EqAt.str_str a t' b t
  | _=>exact absurd (show false = true from fx) Bool.false_ne_true
 | _=>exact absurd (show false = true from fy) Bool.false_ne_true
def eqU (x:V) (u:Value):Bool:=match u with
 | .none=>eqV .non x
 | .bool b=>eqV (.bl b) x
 | .int i _=>eqV (.int i) x
 | .str z _=>eqV (.str z) x
 | _=>false
theorem AdV {x y:V} {u:Value} (r:RelV y u) (f:Le y = true):eqU x u = eqV y x:=by
 cases y with
 | non=>cases r; rfl
 | bl b=>cases r; rfl
 | int i=>obtain ⟨t,rfl⟩:=r; rfl
 | str z=>obtain ⟨t,rfl⟩:=r; rfl
 | _=>exact absurd (show false = true from f) Bool.false_ne_true
theorem Wi {x:V}:∀ {xs:List V} {us:List Value},Vals xs us->xs.all Le = true->us.any (eqU x) = xs.any fun y=>eqV y x
 | _,_,.nil,_=>rfl
 | y :: xs,u :: us,.cons r t,f=>by
  rw [List.all_cons,Bool.and_eq_true] at f
  rw [List.any_cons,List.any_cons,AdV r f.1,Wi t f.2]
theorem Uj {A:Around} {s:Shared} {x:V} {v:Value} (rx:RelV x v) (fx:Le x = true):∀ {xs:List V} {us:List Value},Vals xs us->xs.all Le = true->∀ u ∈ us,SeqAt.EqAt A s u v (eqU x u)
 | _,_,.nil,_=>fun u hu=>by cases hu
 | y :: xs,u :: us,.cons r t,f=>fun u' hu=>by
  rw [List.all_cons,Bool.and_eq_true] at f
  rcases List.mem_cons.mp hu with rfl | hu
  ·rw [AdV r f.1]; exact Adm r rx f.1 fx
  ·exact Uj rx fx t f.2 u' hu
def inV (x:V) (xs:List V):Bool:=xs.any fun y=>eqV y x
def rIn (K:PySem.W.Frag) (neg:Bool):R2:=fun x y H Q=>∃ p xs,y = .ref p/\(SqL K H p xs\/SqT K H p xs)/\Le x = true/\xs.all Le = true/\Q (.bl (if neg then !inV x xs else inV x xs)) H
theorem Wm:OpR X (compareOp .In) (rIn X.K false):=by
 intro pins s σ H x y v u Q I rx ry h
 obtain ⟨p,xs,rfl,hq,fx,fs,q⟩:=h
 cases ry
 rcases hq with hq | hq
 ·obtain ⟨its,r,pl,hz⟩:=I.list hq
  refine SeqAt.in_listAt (eqU x) pl.isList (fun w hw=>Uj rx fx r fs w (by simpa using hw)) ⟨.bl _,H,I,rfl,?_⟩
  rw [show its.toArray.any (eqU x) = its.any (eqU x) by simp,Wi r fs]
  exact q
 ·obtain ⟨its,r,pl,hz⟩:=I.tuple hq
  refine SeqAt.in_tupleAt (eqU x) pl (fun w hw=>Uj rx fx r fs w (by simpa using hw)) ⟨.bl _,H,I,rfl,?_⟩
  rw [show its.toArray.any (eqU x) = its.any (eqU x) by simp,Wi r fs]
  exact q
theorem Fn:Ou X (.builtin "len") (fun xs H Q=>∃ p ys,xs = [.ref p]/\(SqL X.K H p ys\/SqT X.K H p ys)/\Q (.int ys.length) H):=by
 intro pins s σ H xs us Q I r h
 obtain ⟨p,ys,rfl,hq,q⟩:=h
 obtain ⟨u,rfl,rx⟩:=Ty r
 cases rx
 have hn:=Yx
 rcases hq with hq | hq
 ·obtain ⟨its,r',pl,hz⟩:=I.list hq
  have hlen:=r'.length
  exact Calls.call_len_list pl.isList (by simp only [List.size_toArray] <;> omega) ⟨.int ys.length,H,I.tok _,⟨s.toks + 1,by rw [List.size_toArray,hlen]⟩,q⟩
 ·obtain ⟨its,r',pl,hz⟩:=I.tuple hq
  have hlen:=r'.length
  exact len_tuple pl (by simp only [List.size_toArray] <;> omega) ⟨.int ys.length,H,I.tok _,⟨s.toks + 1,by rw [List.size_toArray,hlen]⟩,q⟩
theorem Yc:Ou X (.type "list") (fun xs H Q=>∃ p ys,xs = [.ref p]/\(SqL X.K H p ys\/SqT X.K H p ys)/\∀ l,H l = none->Q (.ref l) (upd H l (.lst ys))):=by
 intro pins s σ H xs us Q I r h
 obtain ⟨p,ys,rfl,hq,q⟩:=h
 obtain ⟨u,rfl,rx⟩:=Ty r
 cases rx
 have fin:∀ (its:List Value),Vals ys its->ys.length <= sizeLine->∀ (h':Heap) (c':Nat),(∀ b o',s.heap.get? b = some o'->h'.get? b = some o') ->
   h'.get? s.heap.objs.size = some { cls:=.type "list",dict:=none,data:=.seq its.toArray c',slots:=#[] }->EP X pins σ Q (.ref s.heap.objs.size) { s with heap:=h' }:=fun its r' hz h' c' kp e =>
  ⟨.ref s.heap.objs.size,_,I.laid (t':=s.toks) kp (Nat.le_refl _) (show ObjOk X.prog X.w _ h' _ (.lst ys) from ⟨hz,its,c',r',e⟩),rfl,q _ (I.hok.fresh (Nat.le_refl _))⟩
 rcases hq with hq | hq
 ·obtain ⟨its,r',pl,hz⟩:=I.list hq
  have hlen:=r'.length
  obtain ⟨o,ho,hc,n,hd⟩:=pl.isList
  exact call_list_seq p (.inl rfl) ho hc hd (fun h' c' kp e=>fin its r' hz h' c' kp e) (by simp only [List.size_toArray] <;> omega)
 ·obtain ⟨its,r',pl,hz⟩:=I.tuple hq
  have hlen:=r'.length
  obtain ⟨o,ho,hc,n,hd⟩:=pl
  exact call_list_seq p (.inr rfl) ho hc hd (fun h' c' kp e=>fin its r' hz h' c' kp e) (by simp only [List.size_toArray] <;> omega)
def tyV (K:PySem.W.Frag) (T:String) (x:V) (H:Hp):Prop:=match x with
 | .str _=>T = "str"
 | .int _=>T = "int"
 | .ref p=>(T = "list"/\∃ xs,SqL K H p xs)\/(T = "tuple"/\∃ o,K.lookup p = some o/\o.cls = .type "tuple"/\o.dict = none) \/
   (T = "dict"/\((∃ kvs,H p = some (.dK kvs))\/∃ kvs,H p = some (.dT kvs)))\/(T = "set"/\∃ S n,H p = some (.set S n))
 | _=>False
theorem Aii {pins:List (Addr × Obj)} {σ:St} {H:Hp} {s:Shared} {T:String} {x:V} {v:Value} (I:Inv X pins σ H s) (r:RelV x v) (ty:tyV X.K T x H) :
  s.TypeIs v T/\∀ a,v = .ref a->∃ ob,s.heap.get? a = some ob/\ob.dict = none:=by
 cases x with
 | str z =>
  obtain ⟨t,rfl⟩:=r
  cases (show T = "str" from ty)
  exact ⟨typeIs_str s z t,fun _ e=>nomatch e⟩
 | int i =>
  obtain ⟨t,rfl⟩:=r
  cases (show T = "int" from ty)
  exact ⟨typeIs_int s i t,fun _ e=>nomatch e⟩
 | ref p =>
  cases r
  rcases ty with ⟨rfl,xs,hq⟩ | ⟨rfl,o,hk,hc,hd⟩ | ⟨rfl,hk⟩ | ⟨rfl,S,n,hk⟩
  ·obtain ⟨its,_,pl,_⟩:=I.list hq
   refine ⟨pl.isList.typeIs,fun a e=>?_⟩
   cases e
   obtain ⟨o,n,e,c,hd,_⟩:=pl
   exact ⟨o,e,hd⟩
  ·refine ⟨⟨o,I.kIn p o hk,hc⟩,fun a e=>?_⟩
   cases e
   exact ⟨o,I.kIn _ o hk,hd⟩
  ·have z:∃ o,s.heap.get? p = some o/\o.ExactDict:=by
    rcases hk with ⟨kvs,hk⟩ | ⟨kvs,hk⟩
    ·obtain ⟨_,_,_,_,o,_,_,e,ex,_⟩:=I.hok p _ hk
     exact ⟨o,e,ex⟩
    ·obtain ⟨_,_,_,_,o,_,_,e,ex,_⟩:=I.hok p _ hk
     exact ⟨o,e,ex⟩
   obtain ⟨o,e,ex⟩:=z
   refine ⟨⟨o,e,ex.1⟩,fun a e2=>?_⟩
   cases e2
   exact ⟨o,e,ex.2.1⟩
  ·obtain ⟨o,_,_,_,e,ex,_⟩:=I.hok p _ hk
   refine ⟨⟨o,e,ex.1⟩,fun a e2=>?_⟩
   cases e2
   exact ⟨o,e,ex.2.1⟩
 | _=>exact False.elim ty
def tBM (K:PySem.W.Frag) (T:String) (r:V->List V->Hp->VK->Prop) (to:TE) (t:TA):TE:=fun σ H Q=>to σ H fun x H1=>tyV K T x H1/\t σ H1 fun xs H2=>r x xs H2 Q
variable {o e:Expr} {es:List Expr} {to:TE} {t:TA} {name:Str} {apos cpos:Pos} {T id:String} {r:V->List V->Hp->VK->Prop}
theorem Gk (pa:PlainAttrs T) (slot:Slot T name id) (hty:typeOf (.builtin id) = pure (.type "method_descriptor")) (hm:MtR X id r) (ho:PE X o to) (ha:PA X (e :: es) t)
  (hbase:attributeBase o name X.env (eval o X.env) = eval o X.env:=by rfl)
  (hfew:((backTo cpos (starEach (e :: es) X.env)).all (fun x=>!x.1) && (backToKw cpos (keywordEach [] X.env)).all (fun x=>x.1.isSome)
   && decide ((e :: es).length + ([]:List Keyword).length + (if ([]:List Keyword).isEmpty then 0 else 1) < 30)) = true:=by rfl)
  (hline:(apos.endLine == cpos.line) = true:=by rfl) (hs:starEach (e :: es) X.env = (false,eval e X.env) :: starEach es X.env:=by rfl) (hplain:(backTo cpos (starEach es X.env)).any (·.1) = false:=by rfl) :
  PE X (.Call (.Attribute o name apos) (e :: es) [] cpos) (tBM X.K T r to t):=by
 intro pins s σ H Q I h
 refine wpAny_Call_method_late hbase hfew hline rfl (thn (ho pins s σ H _ I h) fun v s1 ⟨x,H1,I1,r1,ty,q1⟩=>?_)
 obtain ⟨h1,h2⟩:=Aii I1 r1 ty
 refine ⟨T,id,pa,slot,hty,h1,h2,?_⟩
 have hA:=ha cpos pins s1 σ H1 _ I1 q1
 rw [hs] at hA ⊢
 refine Calls.callWith_builtin (by show (false || (backTo cpos (starEach es X.env)).any (·.1)) = false; rw [hplain] <;> rfl) (Calls.evalArgs_plain ?_)
 exact thn hA fun us s2 ⟨vs,H2,I2,r2,q2⟩=>hm pins s2 σ H2 x vs v us Q I2 r1 r2 q2
end
end L2
namespace L2
open PySem PySem.Spec PyProof.Rows
def MtM (X:Cx) (id:String) (r:V->List V->Hp->VK->Prop):Prop :=
 ∀ (pins:List (Addr × Obj)) (s:Shared) (σ:St) (H:Hp) (x:V) (xs:List V) (v:Value) (us:List Value) (Q:VK),Inv X pins σ H s->RelV x v->Vals xs us->r x xs H Q ->
  wpAny (model X.prog X.w) X.A (call (.builtin id) (v :: us)) (EP X pins σ Q) X.xe s
theorem Vals.one:∀ {x:V} {us:List Value},Vals [x] us->∃ u,us = [u]/\RelV x u
 | _,_,.cons r .nil=>⟨_,rfl,r⟩
section
variable {X:Cx} {pins:List (Addr × Obj)} {σ:St} {H:Hp} {s:Shared} {l b:Addr} {xs ys zs:List V}
theorem Inv.lset {its its':List Value} {n:Nat} {f:Array Value->Array Value} {t':Nat} (I:Inv X pins σ H s) (hH:H l = some (.lst xs))
  (e:s.heap.get? l = some { cls:=.type "list",data:=.seq its.toArray n }) (hf:f its.toArray = its'.toArray) (hv:Vals ys its') (hz:ys.length <= sizeLine) :
  Inv X pins σ (upd H l (.lst ys)) { s with heap:=s.heap.update l (Obj.mapSeq f),toks:=t' }:=by
 have q:=PySem.IsL.update e f
 rw [hf] at q
 refine I.write (x:=l) (e:=l) (by rw [hH]; exact trivial) (.inl rfl) (fun b' u hb hu=>(Heap.get?_update_other s.heap (Obj.mapSeq f) (Ne.symm hb)).trans hu) ⟨_,q⟩ ?_
 exact ⟨hz,its',_,hv,q⟩
theorem Inv.lnew {its:List Value} {t':Nat} (I:Inv X pins σ H s) (hv:Vals ys its) (hz:ys.length <= sizeLine) :
  Inv X pins σ (upd H s.heap.objs.size (.lst ys)) { s with heap:=s.heap.push { cls:=.type "list",data:=.seq its.toArray },toks:=t' } :=
 I.laid (fun _ _ q=>Heap.get?_push_of_some _ q) (Nat.le_refl _) ⟨hz,its,0,hv,Heap.get?_push_size _ rfl⟩
theorem Inv.fresh (I:Inv X pins σ H s):H s.heap.objs.size = none:=I.hok.fresh (Nat.le_refl _)
theorem Inv.lstM (I:Inv X pins σ H s) (hH:H l = some (.lst xs)):xs.length <= sizeLine/\∃ (its:List Value) (n:Nat),Vals xs its/\xs.length = its.length/\s.heap.get? l = some { cls:=.type "list",data:=.seq its.toArray n }:=by
 obtain ⟨z,its,n,r,e⟩:=I.hok l _ hH
 exact ⟨z,its,n,r,r.length,e⟩
theorem Ad0 {n:Nat} (h:n <= sizeLine):Builtin.List.listTooLong n = false:=by
 unfold Builtin.List.listTooLong
 exact decide_eq_false (by omega)
end
section
variable {X:Cx}
def Ahb:V->List V->Hp->VK->Prop:=fun x vs H Q=>∃ l xs y,x = .ref l/\vs = [y]/\H l = some (.lst xs)/\xs.length < sizeLine/\Q .non (upd H l (.lst (xs ++ [y])))
theorem Wo:MtM X "list.append" Ahb:=by
 intro pins s σ H x vs v us Q I rx rv h
 obtain ⟨l,xs,y,rfl,rfl,hH,hz,q⟩:=h
 cases rx
 obtain ⟨u,rfl,ru⟩:=rv.one
 obtain ⟨z,its,n,r,hl,e⟩:=I.lstM hH
 refine call_meets F.slot_list_append ⟨_,e,rfl⟩ F.entry_list_append (F.args_list_append_2 _ _) (PySem.list_append l its.toArray n u (by rw [List.size_toArray]; omega)) ⟨e,?_⟩
 refine ⟨.non,_,I.lset (its':=its ++ [u]) hH e (by simp) (r.append (.cons ru .nil)) ?_,rfl,q⟩
 rw [List.length_append,List.length_singleton]
 omega
def Aht:V->List V->Hp->VK->Prop:=fun x vs H Q=>∃ l b xs zs,x = .ref l/\vs = [.ref b]/\H l = some (.lst xs)/\H b = some (.lst zs)/\xs.length + zs.length <= sizeLine/\Q .non (upd H l (.lst (xs ++ zs)))
theorem Ady:MtM X "list.extend" Aht:=by
 intro pins s σ H x vs v us Q I rx rv h
 obtain ⟨l,b,xs,zs,rfl,rfl,hH,hB,hz,q⟩:=h
 cases rx
 obtain ⟨u,rfl,ru⟩:=rv.one
 cases ru
 obtain ⟨z,its,n,r,hl,e⟩:=I.lstM hH
 obtain ⟨z2,its2,n2,r2,hl2,e2⟩:=I.lstM hB
 have hsz:its.toArray.size + its2.toArray.size <= sizeLine:=by rw [List.size_toArray,List.size_toArray]; omega
 have hlong:¬ (!its.toArray.isEmpty && Builtin.List.listTooLong (its.toArray.size + its2.toArray.size)) = true:=by
  rw [Ad0 hsz,Bool.and_false]
  exact Bool.false_ne_true
 refine call_meets F.slot_list_extend ⟨_,e,rfl⟩ F.entry_list_extend (F.args_list_extend_2 _ _)
  (AutoSeq1.list_extend_list_list_0 l its.toArray n b its2.toArray n2 hlong (by rw [List.size_toArray]; omega) (by omega)) ⟨e,e2,?_⟩
 refine ⟨.non,_,I.lset (its':=its ++ its2) hH e (by simp) (r.append r2) ?_,rfl,q⟩
 rw [List.length_append]
 omega
def Al6:R2:=fun x y H Q=>∃ l b xs zs,x = .ref l/\y = .ref b/\H l = some (.lst xs)/\H b = some (.lst zs)/\xs.length + zs.length <= sizeLine/\∀ p,H p = none->Q (.ref p) (upd H p (.lst (xs ++ zs)))
theorem Ai0:OpR X (binaryOp .Add) Al6:=by
 intro pins s σ H x y v u Q I rx ry h
 obtain ⟨l,b,xs,zs,rfl,rfl,hH,hB,hz,q⟩:=h
 cases rx
 cases ry
 obtain ⟨z,its,n,r,hl,e⟩:=I.lstM hH
 obtain ⟨z2,its2,n2,r2,hl2,e2⟩:=I.lstM hB
 refine PySem.P.add_list e e2 ?_ (by rw [List.size_toArray,List.size_toArray]; omega)
 have ea:its.toArray ++ its2.toArray = (its ++ its2).toArray:=by simp
 rw [ea]
 exact ⟨.ref _,_,I.lnew (t':=s.toks) (r.append r2) (by rw [List.length_append]; omega),rfl,q _ I.fresh⟩
end
section
variable {prog:Program} {w:World} {A:Around} {E:Value->Shared->Prop} {s:Shared}
set_option maxRecDepth 100000 in
end
section
variable {X:Cx}
end
end L2
namespace L2
open PySem PySem.Spec PyProof.Rows
section
variable {κ:Type} [DecidableEq κ]
def Ci (kvs:List (κ × V)) (k:κ):Option V:=(kvs.find? fun kv=>decide (kv.1 = k)).map (·.2)
def Gr (kvs:List (κ × V)) (k:κ) (v:V):List (κ × V) :=
 if (kvs.any fun kv=>decide (kv.1 = k)) = true then kvs.map (fun kv=>if kv.1 = k then (kv.1,v) else kv) else kvs ++ [(k,v)]
theorem Lw {p:κ × V} {r:List (κ × V)} {k:κ} (e:p.1 = k):Ci (p :: r) k = some p.2:=by simp [Ci,List.find?_cons,e]
theorem Lr {p:κ × V} {r:List (κ × V)} {k:κ} (e:¬ p.1 = k):Ci (p :: r) k = Ci r k:=by simp [Ci,List.find?_cons,e]
theorem Rz (k:κ):∀ kvs:List (κ × V),(kvs.any fun kv=>decide (kv.1 = k)) = (Ci kvs k).isSome
 | []=>rfl
 | p :: r=>by
  rw [List.any_cons]
  by_cases e:p.1 = k
  ·simp only [Lw e,decide_eq_true e,Bool.true_or,Option.isSome_some]
  ·rw [Lr e,decide_eq_false e,Bool.false_or]; exact Rz k r
theorem Ug (kvs:List (κ × V)) (k:κ) (v:V):(Gr kvs k v).length <= kvs.length + 1:=by
 unfold Gr
 split
 ·rw [List.length_map]; omega
 ·rw [List.length_append,List.length_cons,List.length_nil]; omega
theorem Lh {kvs:List (κ × V)} {k:κ} (v:V) (h:Ci kvs k = none):Gr kvs k v = kvs ++ [(k,v)]:=by
 unfold Gr
 rw [Rz,h]
 exact if_neg (by decide)
theorem RelO.isSome_eq {o:Option V} {u:Option Value} (r:RelO o u):o.isSome = u.isSome:=by
 cases o with
 | none=>cases u with
  | none=>rfl
  | some _=>exact (show False from r).elim
 | some _=>cases u with
  | none=>exact (show False from r).elim
  | some _=>rfl
theorem RelO.getD {o:Option V} {u:Option Value} {d:V} {d':Value} (r:RelO o u) (rd:RelV d d'):RelV (o.getD d) (u.getD d'):=by
 cases o with
 | none=>cases u with
  | none=>exact rd
  | some _=>exact (show False from r).elim
 | some _=>cases u with
  | none=>exact (show False from r).elim
  | some _=>exact r
theorem KV.val {kvs:List (κ × V)} {vs:List (κ × Value)} (r:KV kvs vs) (k:κ):RelO (Ci kvs k) (valueAt vs k):=by
 unfold KV at r
 induction r with
 | nil=>exact True.intro
 | @cons p q ps qs h t ih =>
  obtain ⟨h1,h2⟩:=h
  by_cases e:p.1 = k
  ·have e':q.1 = k:=h1.symm.trans e
   have b:valueAt (q :: qs) k = some q.2:=by simp [valueAt,List.find?_cons,e']
   rw [Lw e,b]; exact h2
  ·have e':¬ q.1 = k:=fun z=>e (h1.trans z)
   have b:valueAt (q :: qs) k = valueAt qs k:=by simp [valueAt,List.find?_cons,e']
   rw [Lr e,b]; exact ih
theorem KV.any {kvs:List (κ × V)} {vs:List (κ × Value)} (r:KV kvs vs) (k:κ):(kvs.any fun kv=>decide (kv.1 = k)) = vs.any fun kv=>decide (kv.1 = k):=by
 unfold KV at r
 induction r with
 | nil=>rfl
 | cons h t ih=>rw [List.any_cons,List.any_cons,ih,h.1]
theorem KV.repl {kvs:List (κ × V)} {vs:List (κ × Value)} (r:KV kvs vs) (k:κ) {y:V} {u:Value} (ry:RelV y u) :
  KV (kvs.map fun kv=>if kv.1 = k then (kv.1,y) else kv) (vs.map fun kv=>if kv.1 = k then (kv.1,u) else kv):=by
 unfold KV at r ⊢
 induction r with
 | nil=>exact .nil
 | @cons p q ps qs h t ih =>
  rw [List.map_cons,List.map_cons]
  refine .cons ?_ ih
  obtain ⟨h1,h2⟩:=h
  by_cases e:p.1 = k
  ·rw [if_pos e,if_pos (h1.symm.trans e)]; exact ⟨h1,ry⟩
  ·rw [if_neg e,if_neg (fun z=>e (h1.trans z))]; exact ⟨h1,h2⟩
theorem KV.put {kvs:List (κ × V)} {vs:List (κ × Value)} (r:KV kvs vs) (k:κ) {y:V} {u:Value} (ry:RelV y u):KV (Gr kvs k y) (stored vs k u):=by
 unfold Gr stored
 rw [r.any k]
 by_cases e:(vs.any fun kv=>decide (kv.1 = k)) = true
 ·rw [if_pos e,if_pos e]; exact r.repl k ry
 ·rw [if_neg e,if_neg e]; exact Paired.snoc r ⟨rfl,ry⟩
theorem KV.keys {kvs:List (κ × V)} {vs:List (κ × Value)} (r:KV kvs vs):kvs.map (·.1) = vs.map (·.1):=by
 unfold KV at r
 induction r with
 | nil=>rfl
 | cons h t ih=>rw [List.map_cons,List.map_cons,ih,h.1]
theorem KV.length {kvs:List (κ × V)} {vs:List (κ × Value)} (r:KV kvs vs):kvs.length = vs.length:=Paired.length r
end
theorem Rh {P:Program} {w:World} {k:Key} {u:Value} (r:RelV (kV k) u):(Dc P w).is k u = true:=by
 cases k with
 | inl i=>obtain ⟨t,e⟩:=(show ∃ t,u = Value.int i t from r); subst e; exact Aaj P w i t
 | inr x=>obtain ⟨t,e⟩:=(show ∃ t,u = Value.str x t from r); subst e; exact Aam P w x t
theorem Wt {P:Program} {w:World}:∀ {ks:List Key} {us:List Value},Vals (ks.map kV) us->ItemsAre (Dc P w) ks us
 | [],_,r=>by rw [List.map_nil] at r; cases r; exact .nil
 | k :: ks,_,r=>by
  rw [List.map_cons] at r
  cases r with
  | cons h t=>exact .cons (Rh h) (Wt t)
abbrev KT (H:Hp):List (List Key × V)->List (List Key × Addr × Value)->Prop:=Paired fun p q=>p.1 = q.1/\H q.2.1 = some (.tup (p.1.map kV))/\RelV p.2 q.2.2
theorem KT.val {H:Hp} {kvs:List (List Key × V)} {xs:List (List Key × Addr × Value)} (r:KT H kvs xs) (k:List Key):RelO (Ci kvs k) ((atKey xs k).map (·.2)):=by
 induction r with
 | nil=>exact True.intro
 | @cons p q ps qs h t ih =>
  obtain ⟨h1,_,h2⟩:=h
  by_cases e:p.1 = k
  ·have e':q.1 = k:=h1.symm.trans e
   have b:atKey (q :: qs) k = some q.2:=by simp [atKey,List.find?_cons,e']
   rw [Lw e,b]; exact h2
  ·have e':¬ q.1 = k:=fun z=>e (h1.trans z)
   have b:atKey (q :: qs) k = atKey qs k:=by simp [atKey,List.find?_cons,e']
   rw [Lr e,b]; exact ih
theorem KT.repl {H:Hp} {kvs:List (List Key × V)} {xs:List (List Key × Addr × Value)} (r:KT H kvs xs) (k:List Key) {y:V} {u:Value} (ry:RelV y u) :
  KT H (kvs.map fun kv=>if kv.1 = k then (kv.1,y) else kv) (xs.map (putAt k u)):=by
 induction r with
 | nil=>exact .nil
 | @cons p q ps qs h t ih =>
  rw [List.map_cons,List.map_cons]
  refine .cons ?_ ih
  obtain ⟨h1,h2,h3⟩:=h
  unfold putAt
  by_cases e:p.1 = k
  ·rw [if_pos e,if_pos (h1.symm.trans e)]; exact ⟨h1,h2,ry⟩
  ·rw [if_neg e,if_neg (fun z=>e (h1.trans z))]; exact ⟨h1,h2,h3⟩
theorem KT.put {H:Hp} {kvs:List (List Key × V)} {xs:List (List Key × Addr × Value)} (r:KT H kvs xs) (k:List Key) {b:Addr} {y:V} {u:Value} (hb:H b = some (.tup (k.map kV))) (ry:RelV y u) :
  KT H (Gr kvs k y) (storedH xs k b u):=by
 have e:(kvs.any fun kv=>decide (kv.1 = k)) = (atKey xs k).isSome:=by
  rw [Rz,(r.val k).isSome_eq,Option.isSome_map]
 unfold Gr storedH
 rw [e]
 by_cases q:(atKey xs k).isSome = true
 ·rw [if_pos q,if_pos q]; exact r.repl k ry
 ·rw [if_neg q,if_neg q]; exact Paired.snoc r ⟨rfl,hb,ry⟩
theorem KT.keeps {H H':Hp} {kvs:List (List Key × V)} {xs:List (List Key × Addr × Value)} (r:KT H kvs xs) (ht:∀ b ys,H b = some (.tup ys)->H' b = some (.tup ys)):KT H' kvs xs :=
 Paired.mapP r fun _ _ z=>⟨z.1,ht _ _ z.2.1,z.2.2⟩
section
variable {P:Program} {w:World} {H:Hp} {h:Heap} {a:Addr}
theorem AgB {u:HO} (ok:HOk P w H h) (e:Rd H a u):ObjOk P w H h a u:=e.ok ok
theorem Qa {kvs:List (Key × V)} (ok:HOk P w H h) (e:Rd H a (.dK kvs)):kvs.length <= sizeLine/\(a == sysModules) = false/\∃ vs,KV kvs vs/\h.DictOf (Dc P w) a vs :=
 show ObjOk P w H h a (.dK kvs) from AgB ok e
theorem Alu {kvs:List (Key × V)} (ok:HOk P w H h) (e:H a = some (.dK kvs)):kvs.length <= sizeLine/\(a == sysModules) = false/\∃ vs,KV kvs vs/\h.DictOf (Dc P w) a vs:=Qa ok (.inl e)
theorem Ol {ks:List Key} (ok:HOk P w H h) (e:H a = some (.tup (ks.map kV))):(tupleKind (Dc P w)).is h ks a:=by
 obtain ⟨_,its,r,o,h1,h2,n,h3⟩:=(show ObjOk P w H h a (.tup (ks.map kV)) from ok a _ e)
 exact ⟨o,its.toArray,n,h1,h2,h3,by simpa using Wt r⟩
theorem Ov {kvs:List (List Key × V)} (ok:HOk P w H h) (e:Rd H a (.dT kvs)):kvs.length <= sizeLine/\(a == sysModules) = false /\
  ∃ xs,KT H kvs xs/\h.DictOfH (tupleKind (Dc P w)) a xs:=by
 obtain ⟨z,y,xs,r,o,es,ep,h1,h2,h3,h4,h5⟩:=(show ObjOk P w H h a (.dT kvs) from AgB ok e)
 refine ⟨z,y,xs,r,o,es,ep,h1,h2,h3,h4,fun x hx=>?_,h5⟩
 have all:∀ {l:List (List Key × V)} {m:List (List Key × Addr × Value)},KT H l m->∀ x ∈ m,(tupleKind (Dc P w)).is h x.1 x.2.1:=by
  intro l m q
  induction q with
  | nil=>intro x hx; exact nomatch hx
  | @cons p q ps qs hq t ih =>
   intro x hx
   rcases List.mem_cons.mp hx with e | hx
   ·subst e
    exact Ol ok (by rw [<- hq.1]; exact hq.2.1)
   ·exact ih x hx
 exact all r x hx
theorem AkQ {kvs:List (List Key × V)} (ok:HOk P w H h) (e:H a = some (.dT kvs)):kvs.length <= sizeLine/\(a == sysModules) = false /\
  ∃ xs,KT H kvs xs/\h.DictOfH (tupleKind (Dc P w)) a xs:=Ov ok (.inl e)
end
def DGet (H:Hp) (a:Addr) (y:V) (r:Option V):Prop :=
 (∃ kvs k,Rd H a (.dK kvs)/\y = kV k/\r = Ci kvs k)\/∃ kvs k b,Rd H a (.dT kvs)/\y = .ref b/\H b = some (.tup (k.map kV))/\r = Ci kvs k
def DPut (H:Hp) (a:Addr) (y v:V) (H':Hp):Prop :=
 (∃ kvs k,H a = some (.dK kvs)/\y = kV k/\kvs.length < sizeLine/\H' = upd H a (.dK (Gr kvs k v))) \/
 ∃ kvs k b,H a = some (.dT kvs)/\y = .ref b/\H b = some (.tup (k.map kV))/\kvs.length < sizeLine/\H' = upd H a (.dT (Gr kvs k v))
theorem DGet.k {H:Hp} {a:Addr} {kvs:List (Key × V)} {k:Key} (e:H a = some (.dK kvs)):DGet H a (kV k) (Ci kvs k):=.inl ⟨kvs,k,.inl e,rfl,rfl⟩
theorem DGet.t {H:Hp} {a b:Addr} {kvs:List (List Key × V)} {k:List Key} (e:H a = some (.dT kvs)) (eb:H b = some (.tup (k.map kV))):DGet H a (.ref b) (Ci kvs k):=.inr ⟨kvs,k,b,.inl e,rfl,eb,rfl⟩
theorem DPut.k {H:Hp} {a:Addr} {kvs:List (Key × V)} {k:Key} {v:V} (e:H a = some (.dK kvs)) (hl:kvs.length < sizeLine):DPut H a (kV k) v (upd H a (.dK (Gr kvs k v))):=.inl ⟨kvs,k,e,rfl,hl,rfl⟩
theorem DPut.t {H:Hp} {a b:Addr} {kvs:List (List Key × V)} {k:List Key} {v:V} (e:H a = some (.dT kvs)) (eb:H b = some (.tup (k.map kV))) (hl:kvs.length < sizeLine) :
  DPut H a (.ref b) v (upd H a (.dT (Gr kvs k v))):=.inr ⟨kvs,k,b,e,rfl,eb,hl,rfl⟩
section
variable {X:Cx} {pins:List (Addr × Obj)} {σ:St} {H:Hp} {s:Shared} {a:Addr} {y v:V} {u r:Value} {o:Option V} {A:Around} {E:Value->Shared->Prop}
theorem Inv.big (I:Inv X pins σ H s):sysModules < s.heap.objs.size:=by
 have h:mainGlobals < s.heap.objs.size:=(I.mod.glob.keeps I.bk).lt
 exact Nat.lt_trans (by decide) h
theorem Ac2 {Q:Value->Shared->Prop} (hu:A.units + 1 < cLine) (I:Inv X pins σ H s) (g:DGet H a y (some v)) (ry:RelV y u) (h:∀ w' s',Inv X pins σ H s'->RelV v w'->Q w' s') :
  wpAny (model X.prog X.w) A (getItem (.ref a) u) Q E s:=by
 rcases g with ⟨kvs,k,e,ey,l⟩ | ⟨kvs,k,b,e,ey,eb,l⟩
 ·subst ey
  obtain ⟨z,hd,vs,rel,dd⟩:=Qa I.hok e
  obtain ⟨w',hw,rw'⟩:=RelO.some_of (v:=v) (o:=valueAt vs k) (by rw [l]; exact rel.val k)
  exact wpAny_getItem_of (Rh ry) dd.mapOf hw (h w' _ (I.tok _) rw')
 ·subst ey
  cases (show u = Value.ref b from ry)
  obtain ⟨z,hd,xs,rel,dd⟩:=Ov I.hok e
  obtain ⟨w',hw,rw'⟩:=RelO.some_of (v:=v) (o:=(atKey xs k).map (·.2)) (by rw [l]; exact rel.val k)
  obtain ⟨p,hp,hp2⟩:=Option.map_eq_some_iff.mp hw
  refine wpAny_getItem_heap (tupleKind_room_in1 hu) (Ol I.hok eb) dd hp ?_
  rw [hp2]
  exact h w' _ (I.tok _) rw'
theorem Al1 {Q:Value->Shared->Prop} (hu:A.units + 1 < cLine) (I:Inv X pins σ H s) (g:DGet H a y o) (ry:RelV y u) (h:∀ s',Inv X pins σ H s'->Q (.bool o.isSome) s') :
  wpAny (model X.prog X.w) A (compareOp .In u (.ref a)) Q E s:=by
 rcases g with ⟨kvs,k,e,ey,l⟩ | ⟨kvs,k,b,e,ey,eb,l⟩
 ·subst ey
  obtain ⟨z,hd,vs,rel,dd⟩:=Qa I.hok e
  refine wpAny_in_of (Rh ry) hd dd.mapOf ?_
  rw [<- (rel.val k).isSome_eq,<- l]
  exact h _ (I.tok _)
 ·subst ey
  cases (show u = Value.ref b from ry)
  obtain ⟨z,hd,xs,rel,dd⟩:=Ov I.hok e
  refine wpAny_in_heap (tupleKind_room_in1 hu) (Ol I.hok eb) hd dd ?_
  have q:=(rel.val k).isSome_eq
  rw [Option.isSome_map] at q
  rw [<- q,<- l]
  exact h _ (I.tok _)
theorem Aho {Q:Value->Shared->Prop} (hu:A.units + 1 < cLine) (I:Inv X pins σ H s) (g:DGet H a y o) (ry:RelV y u) (h:∀ s',Inv X pins σ H s'->Q (.bool (!o.isSome)) s') :
  wpAny (model X.prog X.w) A (compareOp .NotIn u (.ref a)) Q E s:=by
 rcases g with ⟨kvs,k,e,ey,l⟩ | ⟨kvs,k,b,e,ey,eb,l⟩
 ·subst ey
  obtain ⟨z,hd,vs,rel,dd⟩:=Qa I.hok e
  refine wpAny_notIn_of (Rh ry) hd dd.mapOf ?_
  rw [<- (rel.val k).isSome_eq,<- l]
  exact h _ (I.tok _)
 ·subst ey
  cases (show u = Value.ref b from ry)
  obtain ⟨z,hd,xs,rel,dd⟩:=Ov I.hok e
  refine wpAny_notIn_heap (tupleKind_room_in1 hu) (Ol I.hok eb) hd dd ?_
  have q:=(rel.val k).isSome_eq
  rw [Option.isSome_map] at q
  rw [<- q,<- l]
  exact h _ (I.tok _)
theorem Aa5 {h':Heap} {t':Nat} {ob:HO} (I:Inv X pins σ H s) (mu:Mut (H a)) (hs:Heap.SameBut a s.heap h') (he:∃ q,h'.get? a = some q) (new:ObjOk X.prog X.w (upd H a ob) h' a ob) :
  Inv X pins σ (upd H a ob) { s with heap:=h',toks:=t' } :=
 I.write (x:=a) (e:=a) mu (.inl rfl) (fun b q hb z=>(hs.2 b hb).trans z) he new
theorem AjJ {P:Program} {w:World} {H':Hp} {h':Heap} {kvs:List (Key × V)} {vs:List (Key × Value)} (z:kvs.length <= sizeLine) (hd:(a == sysModules) = false) (rel:KV kvs vs) (dd:h'.DictOf (Dc P w) a vs) :
  ObjOk P w H' h' a (.dK kvs):=⟨z,hd,vs,rel,dd⟩
theorem Adn {H':Hp} {Q:Unit->Shared->Prop} (hu:A.units + 1 < cLine) (I:Inv X pins σ H s) (g:DPut H a y v H') (ry:RelV y u) (rv:RelV v r) (h:∀ s',Inv X pins σ H' s'->Q () s') :
  wpAny (model X.prog X.w) A (setItem (.ref a) u r) Q E s:=by
 rcases g with ⟨kvs,k,e,ey,l,eH⟩ | ⟨kvs,k,b,e,ey,eb,l,eH⟩
 ·subst ey eH
  obtain ⟨z,hd,vs,rel,dd⟩:=Alu I.hok e
  have hz:vs.length <= sizeLine:=by rw [<- rel.length]; exact z
  have hl:(Gr kvs k v).length <= sizeLine:=by have:=Ug kvs k v; omega
  refine wpAny_setItem_pairs (hsz:=hz) (Rh ry) dd fun h' dd' hs=>h _ ?_
  have he:∃ q,h'.get? a = some q:=let ⟨q,_,_,hq,_⟩:=dd'; ⟨q,hq⟩
  exact Aa5 I (by rw [e]; exact True.intro) hs he (AjJ hl hd (rel.put k rv) dd')
 ·subst ey eH
  cases (show u = Value.ref b from ry)
  obtain ⟨z,hd,xs,rel,dd⟩:=AkQ I.hok e
  have hz:xs.length <= sizeLine:=by rw [<- Paired.length rel]; exact z
  have hl:(Gr kvs k v).length <= sizeLine:=by have:=Ug kvs k v; omega
  refine wpAny_setItem_heap (hsz:=hz) (tupleKind_room_in1 hu) (Ol I.hok eb) dd fun h' dd' hs=>h _ ?_
  obtain ⟨q,es,ep,hq,h2,h3,h4,_,h5⟩:=dd'
  refine Aa5 I (by rw [e]; exact True.intro) hs ⟨q,hq⟩ ⟨hl,hd,_,(rel.put k eb rv).keeps fun c ys ec=>?_,q,es,ep,hq,h2,h3,h4,h5⟩
  rw [Bg (Dl ec e (fun z=>nomatch z))]
  exact ec
end
section
variable {X:Cx} {pins:List (Addr × Obj)} {σ:St} {H:Hp} {s:Shared} {a:Addr} {kvs:List (Key × V)} {k:Key} {u:Value} {A:Around} {E:Value->Shared->Prop}
end
def Aiq (i:Expr):Prop:=∀ ov iv,subscripted i false ov iv = operate [ov,iv] (getItem ov iv)
theorem Ag1 {prog:Program} {w:World} {A:Around} {E:Value->Shared->Prop} {s:Shared} {env:Env} {value slice:Expr} {pos:Pos} {T id:String} {Q:Value->Shared->Prop}
  (hl:typeLookup (.type T) "__getitem__" = pure (some (.builtin id))) (hs:Aiq slice)
  (h:wpAny (model prog w) A (eval value env) (fun o s₁=>wpAny (model prog w) A (eval slice env) (fun i s₂=>s₂.TypeIs o T/\wpAny (model prog w) A (getItem o i) Q E s₂) E s₁) E s) :
  wpAny (model prog w) A (eval (.Subscript value slice pos) env) Q E s:=by
 refine Subscript_ (wpAny_mono h (fun o s₁ h₁=>wpAny_mono h₁ (fun i s₂ h₂=>?_) fun _ _ x=>x) fun _ _ x=>x)
 obtain ⟨hT,h₂⟩:=h₂
 unfold subscriptTail
 refine wpAny_bind ?_
 rw [getitemInPython_of_ne hT.not_modules]
 refine wpAny_bind (wpAny_specialOf hT hl ?_)
 have fin:wpAny (model prog w) A (subscripted slice false o i) (fun r s₃=>wpAny (model prog w) A (letTemporaryGo value o r >>= fun _=>pure r) Q E s₃) E s₂:=by
  rw [hs o i]
  exact wpAny_operating (wpAny_mono h₂ (fun r s₃ h₃=>wpAny_bind (wpAny_letTemporaryGo (wpAny_pure h₃))) fun _ _ x=>x)
 first
  | exact wpAny_pure (wpAny_bind fin)
  | exact wpAny_bind (wpAny_pure (wpAny_bind fin))
  | exact wpAny_bind fin
theorem Aah {X:Cx} {pins:List (Addr × Obj)} {σ:St} {H:Hp} {s:Shared} {a:Addr} {y:V} {o:Option V} (I:Inv X pins σ H s) (g:DGet H a y o):s.TypeIs (.ref a) "dict":=by
 rcases g with ⟨kvs,k,e,_,_⟩ | ⟨kvs,k,b,e,_,_,_⟩
 ·obtain ⟨_,_,vs,_,dd⟩:=Qa I.hok e
  exact dd.typeIs
 ·obtain ⟨_,_,xs,_,dd⟩:=Ov I.hok e
  exact dd.typeIs
def AbO (td ty:TE):TE:=fun σ H Q=>td σ H fun x H1=>ty σ H1 fun y H2=>∃ a v,x = .ref a/\DGet H2 a y (some v)/\Q v H2
def Afa (ty td:TE):TE:=fun σ H Q=>ty σ H fun y H1=>td σ H1 fun x H2=>∃ a o,x = .ref a/\DGet H2 a y o/\Q (.bl o.isSome) H2
def AaA (ty td:TE):TE:=fun σ H Q=>ty σ H fun y H1=>td σ H1 fun x H2=>∃ a o,x = .ref a/\DGet H2 a y o/\Q (.bl (!o.isSome)) H2
def AbF (td ty tv:TE):TS:=fun D σ H=>tv σ H fun v H1=>td σ H1 fun x H2=>ty σ H2 fun y H3=>∃ a H4,x = .ref a/\DPut H3 a y v H4/\D.nx σ H4
section
variable {X:Cx} {o i e value:Expr} {pos pos' tpos:Pos} {td ty tv:TE}
theorem AaU (hu:X.A.units + 1 < cLine) (ho:PE X o td) (hi:PE X i ty) (hs:Aiq i):PE X (.Subscript o i pos) (AbO td ty):=by
 intro pins s σ H Q I h
 refine Ag1 PySem.F.slot_dict_getitem.lookup hs (thn (ho pins s σ H _ I h) fun u s1 ⟨x,H1,I1,rx,q1⟩=>thn (hi pins s1 σ H1 _ I1 q1) fun iv s2 ⟨y,H2,I2,ry,a,v,ex,g,q2⟩=>?_)
 subst ex
 obtain rfl:u = Value.ref a:=rx
 exact ⟨Aah I2 g,Ac2 hu I2 g ry fun w' s3 I3 rw'=>⟨v,H2,I3,rw',q2⟩⟩
theorem AcZ (hu:X.A.units + 1 < cLine) (hi:PE X i ty) (ho:PE X o td):PC X .In i o (Afa ty td):=by
 intro pins s σ H Q I h
 refine thn (hi pins s σ H _ I h) fun iv s1 ⟨y,H1,I1,ry,q1⟩=>thn (ho pins s1 σ H1 _ I1 q1) fun u s2 ⟨x,H2,I2,rx,a,ov,ex,g,q2⟩=>?_
 subst ex
 obtain rfl:u = Value.ref a:=rx
 exact Al1 hu I2 g ry fun s3 I3=>⟨.bl ov.isSome,H2,I3,rfl,q2⟩
theorem Ox (hu:X.A.units + 1 < cLine) (hi:PE X i ty) (ho:PE X o td):PC X .NotIn i o (AaA ty td):=by
 intro pins s σ H Q I h
 refine thn (hi pins s σ H _ I h) fun iv s1 ⟨y,H1,I1,ry,q1⟩=>thn (ho pins s1 σ H1 _ I1 q1) fun u s2 ⟨x,H2,I2,rx,a,ov,ex,g,q2⟩=>?_
 subst ex
 obtain rfl:u = Value.ref a:=rx
 exact Aho hu I2 g ry fun s3 I3=>⟨.bl (!ov.isSome),H2,I3,rfl,q2⟩
theorem Jw (hu:X.A.units + 1 < cLine) (ho:PE X o td) (hi:PE X i ty) (hv:PE X value tv) (hs:swapsWith value (some (.Subscript o i pos')) pos.line X.env = pure false) :
  PS X (.Assign [.Subscript o i pos'] value pos) (AbF td ty tv):=by
 intro pins s σ H D I h
 refine wpAny_Assign_Subscript (thn (hv pins s σ H _ I h) fun r s1 ⟨v,H1,I1,rv,q1⟩=>thn (ho pins s1 σ H1 _ I1 q1) fun u s2 ⟨x,H2,I2,rx,q2⟩=>thn (hi pins s2 σ H2 _ I2 q2) fun iv s3 ⟨y,H3,I3,ry,a,H4,ex,g,q3⟩=>?_) hs
 subst ex
 obtain rfl:u = Value.ref a:=rx
 exact Adn hu I3 g ry rv fun s4 I4=>⟨σ,H4,I4,q3⟩
end
theorem Ad3 {P:Program} {w:World} {H:Hp} (h:Heap) (hb:sysModules < h.objs.size):ObjOk P w H (h.push { cls:=.type "dict",data:=.dict #[] }) h.objs.size (.dK []) :=
 ⟨Nat.zero_le _,beq_eq_false_iff_ne.mpr (Ne.symm (Nat.ne_of_lt hb)),[],.nil,Heap.DictOf.new h⟩
theorem Ad4 {P:Program} {w:World} {H:Hp} (h:Heap) (hb:sysModules < h.objs.size):ObjOk P w H (h.push { cls:=.type "dict",data:=.dict #[] }) h.objs.size (.dT []) :=
 ⟨Nat.zero_le _,beq_eq_false_iff_ne.mpr (Ne.symm (Nat.ne_of_lt hb)),[],.nil,_,#[],0,Heap.get?_push_size _ rfl,⟨rfl,rfl,rfl⟩,rfl,rfl,List.nodup_nil⟩
def Zz:TE:=fun _ H Q=>∀ p,H p = none->Q (.ref p) (upd H p (.dK []))
def AcN:TE:=fun _ H Q=>∀ p,H p = none->Q (.ref p) (upd H p (.dT []))
section
variable {X:Cx} {pos:Pos}
theorem Ll:PE X (.Dict [] [] pos) Zz:=fun pins s σ H Q I h =>
 wpAny_Dict_empty ⟨.ref s.heap.objs.size,_,I.laid (a:=s.heap.objs.size) (o:=.dK []) (t':=s.toks) (fun _ _ q=>Heap.get?_push_of_some _ q) (Nat.le_refl _) (Ad3 s.heap I.big),rfl,h _ (I.hok.fresh (Nat.le_refl _))⟩
theorem Aen:PE X (.Dict [] [] pos) AcN:=fun pins s σ H Q I h =>
 wpAny_Dict_empty ⟨.ref s.heap.objs.size,_,I.laid (a:=s.heap.objs.size) (o:=.dT []) (t':=s.toks) (fun _ _ q=>Heap.get?_push_of_some _ q) (Nat.le_refl _) (Ad4 s.heap I.big),rfl,h _ (I.hok.fresh (Nat.le_refl _))⟩
end
structure M1 (X:Cx) (o:Expr) (m:Str) (apos:Pos) (e:Expr) (cpos:Pos):Prop where
 base:attributeBase o m X.env (eval o X.env) = eval o X.env
 few:((backTo cpos (starEach [e] X.env)).all (fun x=>!x.1) && (backToKw cpos (keywordEach [] X.env)).all (fun x=>x.1.isSome)
  && decide (([e]:List Expr).length + ([]:List Keyword).length + (if ([]:List Keyword).isEmpty then 0 else 1) < 30)) = true
 line:(apos.endLine == cpos.line) = true
 trees:backTo cpos (starEach [e] X.env) = [(false,eval e X.env)]
structure M2 (X:Cx) (o:Expr) (m:Str) (apos:Pos) (e f:Expr) (cpos:Pos):Prop where
 base:attributeBase o m X.env (eval o X.env) = eval o X.env
 few:((backTo cpos (starEach [e,f] X.env)).all (fun x=>!x.1) && (backToKw cpos (keywordEach [] X.env)).all (fun x=>x.1.isSome)
  && decide (([e,f]:List Expr).length + ([]:List Keyword).length + (if ([]:List Keyword).isEmpty then 0 else 1) < 30)) = true
 line:(apos.endLine == cpos.line) = true
 trees:backTo cpos (starEach [e,f] X.env) = [(false,eval e X.env),(false,eval f X.env)]
def IsD (H:Hp) (a:Addr):Prop:=(∃ kvs,Rd H a (.dK kvs))\/∃ kvs,Rd H a (.dT kvs)
theorem Acx {X:Cx} {pins:List (Addr × Obj)} {σ:St} {H:Hp} {s:Shared} {a:Addr} (I:Inv X pins σ H s) (d:IsD H a) :
  s.TypeIs (.ref a) "dict"/\(∀ b,Value.ref a = .ref b->∃ ob,s.heap.get? b = some ob/\ob.dict = none)/\(a == sysModules) = false:=by
 rcases d with ⟨kvs,e⟩ | ⟨kvs,e⟩
 ·obtain ⟨_,hd,vs,_,dd⟩:=Qa I.hok e
  refine ⟨dd.typeIs,fun b q=>?_,hd⟩
  cases q
  obtain ⟨ob,_,_,h1,h2,_⟩:=dd
  exact ⟨ob,h1,h2.2.1⟩
 ·obtain ⟨_,hd,xs,_,dd⟩:=Ov I.hok e
  refine ⟨dd.typeIs,fun b q=>?_,hd⟩
  cases q
  obtain ⟨ob,_,_,h1,h2,_⟩:=dd
  exact ⟨ob,h1,h2.2.1⟩
section
variable {X:Cx} {pins:List (Addr × Obj)} {σ:St} {H:Hp} {s:Shared} {a:Addr} {y d:V} {u r:Value} {o:Option V} {A:Around} {E:Value->Shared->Prop}
theorem Aje {Q:Value->Shared->Prop} (hu:A.units + 1 < cLine) (I:Inv X pins σ H s) (g:DGet H a y o) (ry:RelV y u) (h:∀ w' s',Inv X pins σ H s'->RelV (o.getD .non) w'->Q w' s') :
  wpAny (model X.prog X.w) A (call (.builtin "dict.get") [.ref a,u]) Q E s:=by
 rcases g with ⟨kvs,k,e,ey,l⟩ | ⟨kvs,k,b,e,ey,eb,l⟩
 ·subst ey
  obtain ⟨z,hd,vs,rel,dd⟩:=Qa I.hok e
  refine call_meetsIn PySem.F.slot_dict_get dd.typeIs PySem.F.entry_dict_get (PySem.F.args_dict_get_2 _ _) (meets_dict_get (Dc X.prog X.w) a (Rh ry) hd) ⟨_,dd.mapOf,h _ _ (I.tok _) ?_⟩
  rw [l]
  exact (rel.val k).getD rfl
 ·subst ey
  cases (show u = Value.ref b from ry)
  obtain ⟨z,hd,xs,rel,dd⟩:=Ov I.hok e
  refine call_meetsIn PySem.F.slot_dict_get dd.typeIs PySem.F.entry_dict_get (PySem.F.args_dict_get_2 _ _) (meetsH_dict_get (tupleKind (Dc X.prog X.w)) a b hd) ⟨tupleKind_room_in1 hu,k,xs,Ol I.hok eb,dd,h _ _ (I.tok _) ?_⟩
  rw [l]
  exact (rel.val k).getD rfl
theorem AiV {Q:Value->Shared->Prop} (hu:A.units + 1 < cLine) (I:Inv X pins σ H s) (g:DGet H a y o) (ry:RelV y u) (rd:RelV d r) (h:∀ w' s',Inv X pins σ H s'->RelV (o.getD d) w'->Q w' s') :
  wpAny (model X.prog X.w) A (call (.builtin "dict.get") [.ref a,u,r]) Q E s:=by
 rcases g with ⟨kvs,k,e,ey,l⟩ | ⟨kvs,k,b,e,ey,eb,l⟩
 ·subst ey
  obtain ⟨z,hd,vs,rel,dd⟩:=Qa I.hok e
  refine call_meetsIn PySem.F.slot_dict_get dd.typeIs PySem.F.entry_dict_get (PySem.F.args_dict_get_3 _ _ _) (meets_dict_get_default (Dc X.prog X.w) a (Rh ry) hd r) ⟨_,dd.mapOf,h _ _ (I.tok _) ?_⟩
  rw [l]
  exact (rel.val k).getD rd
 ·subst ey
  cases (show u = Value.ref b from ry)
  obtain ⟨z,hd,xs,rel,dd⟩:=Ov I.hok e
  refine call_meetsIn PySem.F.slot_dict_get dd.typeIs PySem.F.entry_dict_get (PySem.F.args_dict_get_3 _ _ _) (meetsH_dict_get_default (tupleKind (Dc X.prog X.w)) a b hd r) ⟨tupleKind_room_in1 hu,k,xs,Ol I.hok eb,dd,h _ _ (I.tok _) ?_⟩
  rw [l]
  exact (rel.val k).getD rd
end
def AcF (td ty:TE):TE:=fun σ H Q=>td σ H fun x H1=>∃ a,x = .ref a/\IsD H1 a/\ty σ H1 fun y H2=>∃ o,DGet H2 a y o/\Q (o.getD .non) H2
def Xv (td ty tx:TE):TE:=fun σ H Q=>td σ H fun x H1=>∃ a,x = .ref a/\IsD H1 a/\ty σ H1 fun y H2=>tx σ H2 fun z H3=>∃ o,DGet H3 a y o/\Q (o.getD z) H3
section
variable {X:Cx} {o e f:Expr} {apos cpos:Pos} {td ty tx:TE}
theorem Aev (hu:X.A.units + 1 < cLine) (ho:PE X o td) (he:PE X e ty) (m:M1 X o "get" apos e cpos):PE X (.Call (.Attribute o "get" apos) [e] [] cpos) (AcF td ty):=by
 intro pins s σ H Q I h
 refine wpAny_Call_method m.base m.few m.line PySem.F.plainAttrs_dict PySem.F.slot_dict_get PySem.F.type_dict_get (thn (ho pins s σ H _ I h) fun u s1 ⟨x,H1,I1,rx,a,ex,d,q1⟩=>?_)
 subst ex
 obtain rfl:u = Value.ref a:=rx
 obtain ⟨t1,t2,_⟩:=Acx I1 d
 refine ⟨t1,t2,?_⟩
 rw [m.trees]
 refine Calls.callWith_builtin rfl (Calls.evalArgs_plain (Calls.spliced_cons (thn (he pins s1 σ H1 _ I1 q1) fun iv s2 ⟨y,H2,I2,ry,ov,g,q2⟩=>Calls.spliced_nil ?_)))
 exact Aje hu I2 g ry fun w' s3 I3 rw'=>⟨_,H2,I3,rw',q2⟩
theorem Js (hu:X.A.units + 1 < cLine) (ho:PE X o td) (he:PE X e ty) (hf:PE X f tx) (m:M2 X o "get" apos e f cpos):PE X (.Call (.Attribute o "get" apos) [e,f] [] cpos) (Xv td ty tx):=by
 intro pins s σ H Q I h
 refine wpAny_Call_method m.base m.few m.line PySem.F.plainAttrs_dict PySem.F.slot_dict_get PySem.F.type_dict_get (thn (ho pins s σ H _ I h) fun u s1 ⟨x,H1,I1,rx,a,ex,d,q1⟩=>?_)
 subst ex
 obtain rfl:u = Value.ref a:=rx
 obtain ⟨t1,t2,_⟩:=Acx I1 d
 refine ⟨t1,t2,?_⟩
 rw [m.trees]
 refine Calls.callWith_builtin rfl (Calls.evalArgs_plain (Calls.spliced_cons (thn (he pins s1 σ H1 _ I1 q1) fun iv s2 ⟨y,H2,I2,ry,q2⟩ =>
  Calls.spliced_cons (thn (hf pins s2 σ H2 _ I2 q2) fun fv s3 ⟨z,H3,I3,rz,ov,g,q3⟩=>Calls.spliced_nil ?_))))
 exact AiV hu I3 g ry rz fun w' s4 I4 rw'=>⟨_,H3,I4,rw',q3⟩
end
section
variable {X:Cx} {pins:List (Addr × Obj)} {σ:St} {H:Hp} {s:Shared} {a:Addr} {kvs:List (Key × V)} {A:Around} {E:Value->Shared->Prop}
end
section
variable {X:Cx} {pins:List (Addr × Obj)} {σ:St} {H:Hp} {s:Shared} {a:Addr} {y:V} {u:Value} {A:Around} {E:Value->Shared->Prop}
end
end L2
namespace Att
open PySem PySem.W PySem.Calls PyProof.Rows
theorem Vb {P:Params} {h:Heap}:∀ (ns:List Int) (vs:List Value),WellAll P h vs (ns.map WData.int)->IntsAre vs ns:=by
 intro ns
 induction ns with
 | nil =>
  intro vs w
  rw [List.map_nil] at w
  cases w
  exact .nil
 | cons n ns ih =>
  intro vs w
  rw [List.map_cons] at w
  cases w with
  | cons a b =>
   cases a
   exact .cons _ _ (ih _ b)
theorem AdP {l:OpenLaw} {n:Nat} (hn:l.most = some n) {P:Params} {h:Heap} {args:List WData} {vals:List Value}
  (hpre:l.row.toRowW.claim.pre args = true) (hwl:WellAll P h vals args) :
  ∃ a vs ns,vals = [Value.ref a]/\args = [WData.list (ns.map WData.int)]/\h.get? a = some { cls:=.type "list",data:=.seq vs.toArray }/\IntsAre vs ns/\ns.length <= n:=by
 have hsh:WShape.hasAll [] args [.list .int] = true:=(pre_splitW hpre).1
 have hc:l.pre.holds [] { args:=args } = true:=(pre_splitW hpre).2
 obtain ⟨d,r,rfl,h1,h2⟩:=hasAllW_cons hsh
 obtain rfl:=hasAllW_nil h2
 obtain ⟨xs,rfl,h3⟩:=hasW_list h1
 obtain ⟨ns,rfl⟩:=items_int h3
 have hlen:ns.length <= n:=by
  unfold OpenLaw.pre at hc
  have h4:(WTm.not (.lt (.lit (.int (n:Int))) (.len (.arg 0)))).holds [] { args:=[.list (ns.map .int)] } = true:=by
   have h4:=(holds_andW hc).1
   rw [hn] at h4
   exact h4
  have h5:=condW_of h4 (w_not (w_lt w_lit (w_len_list (w_arg rfl))))
  rw [List.length_map] at h5
  refine Nat.le_of_not_lt fun q=>?_
  have q':(n:Int) < ((ns.length:Nat):Int):=by omega
  first
   | (rw [decide_eq_true q'] at h5; exact absurd h5 (by decide))
   | (simp at h5; omega)
 cases hwl with
 | cons w1 w2 =>
  cases w2
  cases w1 with
  | list ho hall=>exact ⟨_,_,ns,rfl,rfl,ho,Vb ns _ hall,hlen⟩
theorem AdX (l:OpenLaw) (args:List WData):l.row.toRowW.claim.post args (.bool true) args = true :=
 postW_of (r:=l.row.toRowW) (X:=(true == true))
  (show WShape.has [] (.bool true) .bool = true by first | rfl | decide | simp [WShape.has,WShape.arms,WShape.armsAll])
  (show (WTm.eq .res (.lit (.bool true))).value [] { args:=args,res:=some (.bool true),after:=args } = some (.bool (true == true)) from w_eq_bool (w_res rfl) w_lit) rfl
theorem attach_call {l:OpenLaw} {n:Nat} {q:Program} {loose:List Str} {XP:(Str->Option Value)->Heap->Prop} {YP:World->Heap->Prop} {d:DefRec}
  (hn:l.most = some n) (hdf:d.params.defaults = [])
  (call:∀ (w:World) (s₀ s₁:Shared) (mg mb:Str->Option Value) (fa:Addr) (o:Obj) (pm cd doc:Value) (a:Addr) (vs:List Value) (ns:List Int),
   Ground q loose [] XP w s₀ mg mb s₁.heap->YP w s₁.heap ->
   s₁.heap.get? fa = some o->o.data = .func (docDef d.name d.params d.body d.scope pm cd doc)->s₁.heap.CodeRec cd d.name->mg d.name = some (.ref fa) ->
   s₁.heap.get? a = some { cls:=.type "list",data:=.seq vs.toArray }->IntsAre vs ns->ns.length <= n->s₁.gens = #[] ->
   codeAny (model l.prog w) callerA (.call (.ref fa) ⟨[.ref a],[]⟩) (fun r s'=>r = .ok (.ret (.bool true))/\OldK s₁.heap s'.heap/\s'.os = s₁.os/\AllBare s'.gens) s₁) :
  WalkO q loose XP YP l.row.toRowW d [] (fun f vs=>PySem.call f vs):=by
 intro w s₀ s₁ mg mb G Y fa o pm cd doc dV kV ho hd hcd hD hmg hg args vals as hpre hlay hrd hwl hlo
 obtain rfl:dV = .none:=Dflts.none hD hdf
 obtain rfl:kV = .none:=Dflts.noKw hD
 obtain ⟨a,vs,ns,rfl,rfl,hobj,hints,hlen⟩:=AdP hn hpre hwl
 refine enter_call (codeAny_mono (call w s₀ s₁ mg mb fa o pm cd doc a vs ns G Y ho (fd_plain hd) hcd hmg hobj hints hlen hg) fun r s' hq=>?_)
 obtain ⟨rfl,h2,h3,h4⟩:=hq
 exact ⟨.inl ⟨.bool true,.bool true,[],rfl,fun _=>rfl,.bool true,AdX l _,fun _=>⟨List.Pairwise.nil,fun _ hm=>(nomatch hm)⟩⟩,h2,h3,h4⟩
section
variable {prog:Program} {w:World} {A:Around} {E:Value->Shared->Prop} {s:Shared} {K:Frag}
end
end Att
namespace L2
open PySem PySem.Spec PyProof.Rows
theorem Xe:∀ {vs:List Value} {ns:List Int},IntsAre vs ns->Vals (ns.map V.int) vs
 | _,_,.nil=>.nil
 | _,_,.cons n t h=>.cons ⟨t,rfl⟩ (Xe h)
def Ael (H:Hp):Prop:=∀ b,H b = none\/∃ o xs,H b = some (.frz o (.lst xs))
theorem AeJ {P:Program} {w:World} {K:PySem.W.Frag} {mg mb:Str->Option Value} {CX:CXT} {k:Nat} {fa a:Addr} {fd:FuncData} {x:Str} {sp:Sp} {s₁:Shared} {vs:List Value} {ns:List Int}
  (KX:K.In s₁.heap) (hns:s₁.heap.Ns mainGlobals mg) (hb:s₁.heap.Ns builtinsNs mb) (hbb:∀ x:Str,x ≠ "__name__"->mb x = bootBuiltins x) (hlim:s₁.heap.NoLimit) (hg:s₁.gens = #[])
  (ha:s₁.heap.get? a = some { cls:=.type "list",data:=.seq vs.toArray }) (hi:IntsAre vs ns) (hl:ns.length <= sizeLine) (hr:Room k callerA)
  (F:∀ base:Heap,K.In base->base.Ns mainGlobals mg->FnOk P w K mg base CX k fa fd [x] sp) (hbind:∀ (s:Shared) (u:Value),BindsTo s fd ⟨[u],[]⟩ [(x,u)])
  (hsp:∀ H:Hp,Ael H->SqL K H a (ns.map V.int)->sp [.ref a] H (fun v _=>v = .bl true) fun _ _ _=>False)
  (hCX:∀ H e s',CX [] H s₁ (fun _ _ _=>False) e s'->False) :
  codeAny (model P w) callerA (.call (.ref fa) ⟨[.ref a],[]⟩) (fun r s'=>r = .ok (.ret (.bool true))/\OldK s₁.heap s'.heap/\s'.os = s₁.os/\AllBare s'.gens) s₁:=by
 have rv:=Xe hi
 have lenV:=hi.length
 -- from an abstract heap in which nothing but the script may be tracked
 have core:∀ H:Hp,Ael H->SqL K H a (ns.map V.int)->HOk P w H s₁.heap->(∀ b,H b ≠ none->b = a)->(H a ≠ none->K.lookup a = none) ->
   codeAny (model P w) callerA (.call (.ref fa) ⟨[.ref a],[]⟩) (fun r s'=>r = .ok (.ret (.bool true))/\OldK s₁.heap s'.heap/\s'.os = s₁.os/\AllBare s'.gens) s₁:=by
  intro H hO hS hok hA hK
  have base_of:∀ {b:Addr} {o:Obj},s₁.heap.get? b = some o->H b = none->(Rj s₁.heap H).get? b = some o:=fun e n=>Aeo e n
  have noA:∀ {b:Addr} {o:Obj} {es:Array DictEntry} {ep:Nat},s₁.heap.get? b = some o->o.data = .dict es ep->H b = none:=fun {b o es ep} e d=>by
   cases q:H b with
   | none=>rfl
   | some u =>
    have e':b = a:=hA b (by rw [q]; simp)
    subst e'
    rw [ha] at e; cases e
    have d':Data.seq vs.toArray _ = Data.dict es ep:=d
    cases d'
  have nsK:∀ {b:Addr} {m:Str->Option Value},s₁.heap.Ns b m->(Rj s₁.heap H).Ns b m:=fun {b m} ⟨o,es,ep,e,d,r⟩=>⟨o,es,ep,base_of e (noA e d),d,r⟩
  have hKb:K.In (Rj s₁.heap H):=fun b o e=>base_of (KX b o e) (by
   cases q:H b with
   | none=>rfl
   | some u =>
    have e':b = a:=hA b (by rw [q]; simp)
    subst e'
    rw [hK (by rw [q]; simp)] at e; cases e)
  have hM:Mod K mg (Rj s₁.heap H):=⟨hKb,nsK hns,⟨mb,nsK hb,hbb⟩,let ⟨mc,h1,h2⟩:=hlim; ⟨mc,nsK h1,h2⟩⟩
  have e0:Env0 P w K mg (Rj s₁.heap H) callerA [] s₁ H:=⟨rfl,hM,fun b o e=>AgT e,Nat.le_of_eq (AdK _ _),trivial,fun b hb=>absurd (show b ∈ ([]:List Addr) from hb) (by simp),hok,.of_eq hg⟩
  refine codeAny_mono ((F _ hKb (nsK hns)).run callerA [] s₁ H ⟨[.ref a],[]⟩ [.ref a] [.ref a] _ _ hr e0 (hbind s₁ (.ref a)) (.cons rfl .nil) (hsp H hO hS)) fun r s' h=>?_
  cases r with
  | error e=>exact (hCX H e s' h).elim
  | ok fl =>
   cases fl with
   | next=>exact False.elim h
   | brk=>exact False.elim h
   | cont=>exact False.elim h
   | ret u =>
    obtain ⟨v,H',os,bare,un,hok',r',q⟩:=h
    have q':v = .bl true:=q
    subst q'
    obtain rfl:u = Value.bool true:=r'
    refine ⟨rfl,OldK.of_keep fun b o e=>?_,os,bare⟩
    cases q:H b with
    | none=>exact un.keep b o e q (by intro z; exact absurd (show b ∈ ([]:List Addr) from z) (by simp)) (by simp)
    | some u =>
     rcases hO b with z | ⟨ob,xs,z⟩
     ·rw [q] at z; cases z
     ·have z2:=un.frzs b ob _ z
      obtain ⟨e1,_⟩:=hok b _ z
      obtain ⟨e2,_⟩:=hok' b _ z2
      rw [e] at e1; cases e1
      exact e2
 cases hk:K.lookup a with
 | some o =>
  -- the script is one of the module's own objects
  have e:=KX a o hk
  rw [ha] at e
  cases e
  refine core (fun _=>none) (fun _=>.inl rfl) (.inr ⟨_,vs.toArray,_,hk,rfl,rfl,rfl,by rw [List.size_toArray,lenV]; exact hl,by simpa using rv⟩) (fun b u z=>by have z':(none:Option HO) = some u:=z; cases z') (fun b z=>absurd rfl z) fun z=>absurd rfl z
 | none =>
  refine core (fun b=>if b = a then some (.frz { cls:=.type "list",data:=.seq vs.toArray } (.lst (ns.map V.int))) else none) (fun b=>?_) (.inl (.inr ⟨{ cls:=.type "list",data:=.seq vs.toArray },if_pos rfl⟩)) (fun b u z=>?_) (fun b z=>?_) fun _=>hk
  ·by_cases hb:b = a
   ·exact .inr ⟨_,_,if_pos hb⟩
   ·exact .inl (if_neg hb)
  ·by_cases hb:b = a
   ·have z':=(if_pos hb).symm.trans z
    cases z'
    subst hb
    exact ⟨ha,by rw [List.length_map]; exact hl,vs,_,rv,ha⟩
   ·have z':=(if_neg hb).symm.trans z
    cases z'
  ·by_cases hb:b = a
   ·exact hb
   ·exact absurd (if_neg hb) z
end L2
namespace L2
open PySem PySem.Spec PyProof.Rows
theorem Al8 {l:PySem.W.OpenLaw} {n k:Nat} {q:Program} {loose:List Str} {XP:(Str->Option Value)->Heap->Prop} {YP:World->Heap->Prop} {d:DefRec} {K:Params->PySem.W.Frag} {CX:World->CXT} {sp:World->Sp} {x:Str}
  (hn:l.most = some n) (hn2:n <= sizeLine) (hdf:d.params.defaults = []) (hr:Room k callerA)
  (hY:∀ (w:World) (h:Heap),YP w h->(K w.params).In h)
  (F:∀ (w:World) (mg:Str->Option Value) (fa:Addr) (h:Heap),(K w.params).In h->h.Ns mainGlobals mg->mg d.name = some (.ref fa) ->
   ∃ fd:FuncData,(∀ (s:Shared) (u:Value),BindsTo s fd ⟨[u],[]⟩ [(x,u)]) /\
    ∀ base:Heap,(K w.params).In base->base.Ns mainGlobals mg->FnOk l.prog w (K w.params) mg base (CX w) k fa fd [x] (sp w))
  (hsp:∀ (w:World) (H:Hp) (a:Addr) (ns:List Int),ns.length <= n->Ael H->SqL (K w.params) H a (ns.map V.int)->sp w [.ref a] H (fun v _=>v = .bl true) fun _ _ _=>False)
  (hCX:∀ (w:World) (H:Hp) (s:Shared) (e:Value) (s':Shared),CX w [] H s (fun _ _ _=>False) e s'->False) :
  PySem.W.WalkO q loose XP YP l.row.toRowW d [] (fun f vs=>PySem.call f vs):=by
 refine Att.attach_call hn hdf fun w s₀ s₁ mg mb fa o pm cd doc a vs ns G Y ho hd hcd hmg hobj hints hlen hg=>?_
 have KX:=hY w _ Y
 obtain ⟨fd,hb,hF⟩:=F w mg fa _ KX G.T.g hmg
 exact AeJ KX G.T.g G.T.b G.T.builtins G.T.nolimit hg hobj hints (Nat.le_trans hlen hn2) hr hF hb (fun H hO hS=>hsp w H a ns hlen hO hS) fun H e s'=>hCX w H s₁ e s'
end L2
namespace L2
open PySem PySem.Spec PyProof.Rows
def Tp (s:Stmt) (j:Nat):Stmt:=match s with
 | .ClassDef _ _ _ body _ _ _ _ _ _ _=>body.getD j (.Pass ⟨0,0,0,0⟩)
 | _=>.Pass ⟨0,0,0,0⟩
def Bk (s:Stmt):Arguments:=match s with
 | .FunctionDef _ a _ _ _ _ _ _ _ _=>a
 | _=>{ posonlyargs:=[],args:=[],vararg:=none,kwonlyargs:=[],kw_defaults:=[],kwarg:=none,defaults:=[] }
def Bj (s:Stmt):List Stmt:=match s with
 | .FunctionDef _ _ b _ _ _ _ _ _ _=>b
 | _=>[]
def Bd (s:Stmt):Scope:=match s with
 | .FunctionDef _ _ _ _ _ _ sc _ _ _=>sc
 | _=>{ kind:=.function,names:=[],isGenerator:=false,isCoroutine:=false }
abbrev CX0:CXT:=fun _ _ _ _ _ _=>False
abbrev E0:XK:=fun _ _ _=>False
theorem Bt {X:Cx}:Qm CX0 X E0:=fun _ _ _ _ _ _ _ h=>h.elim
structure Fun (K:PySem.W.Frag) (x qual:Str) (st:Stmt) (f:Addr) (fd:FuncData):Prop where
 ex:∃ (oc:Value) (od:Option Addr) (kV doc pm:Value) (an:Option Addr) (cdv ct:Value) (osl:Array (Option Value)),
  fd = PySem.W.fnOf x qual (Bk st) (Bj st) (Bd st) .none kV doc pm an cdv ct/\K.lookup f = some ⟨oc,od,.func fd,osl⟩/\PySem.W.codeIn K cdv qual = true
 kp:PySem.W.keepIn K (.ref f) = true
section
variable {P:Program} {w:World} {K:PySem.W.Frag} {mg:Str->Option Value} {base:Heap}
theorem Fun.ok {x qual:Str} {st:Stmt} {f:Addr} {fd:FuncData} {N ps:List Str} {k:Nat} {sp:Sp} (F:Fun K x qual st f fd) (S:Cb N ps (Bd st)) (len:∀ vs H Q E,sp vs H Q E->vs.length = ps.length)
  (hbody:∀ (cdv:Value) (A:Around) (outer:List Env) (s:Shared) (H:Hp) (vs:List V) (Q:VK) (E:XK),Room k (A.deeper (envOfC qual (Bd st) s.heap.objs.size f cdv))->sp vs H Q E ->
   ∃ t,PSs (Up CX0 P w K mg base N qual (Bd st) f cdv A outer s H E).nox (Bj st) t/\t { nx:=fun _ H'=>Q .non H',rt:=Q } (Qd N vs) H):FnOk P w K mg base CX0 (k + 1) f fd ps sp:=by
 obtain ⟨oc,od,kV,doc,pm,an,cdv,ct,osl,rfl,lk,hcd⟩:=F.ex
 refine Alo lk hcd S len fun A outer s H vs Q E hr hsp=>?_
 obtain ⟨t,h,q⟩:=hbody cdv A outer s H vs Q E hr hsp
 exact ⟨t,h.nox,q⟩
theorem Fun.binds {x qual:Str} {st:Stmt} {f:Addr} {fd:FuncData} {ps:List Str} (F:Fun K x qual st f fd)
  (h:∀ (kV doc pm:Value) (an:Option Addr) (cdv ct:Value) (us:List Value),us.length = ps.length->bindArgs (PySem.W.fnOf x qual (Bk st) (Bj st) (Bd st) .none kV doc pm an cdv ct) ⟨us,[]⟩ = pure (ps.zip us)):Binds K fd ps []:=by
 obtain ⟨oc,od,kV,doc,pm,an,cdv,ct,osl,rfl,lk,hcd⟩:=F.ex
 exact .all (h kV doc pm an cdv ct)
theorem Cd {x qual:Str} {st:Stmt} {f:Addr} {oc:Value} {od an:Option Addr} {osl:Array (Option Value)} {kV doc pm cdv ct:Value} (l:K.lookup f = some ⟨oc,od,.func (PySem.W.fnOf x qual (Bk st) (Bj st) (Bd st) .none kV doc pm an cdv ct),osl⟩)
  (c:PySem.W.codeIn K cdv qual = true) (k:PySem.W.keepIn K (.ref f) = true):Fun K x qual st f (PySem.W.fnOf x qual (Bk st) (Bj st) (Bd st) .none kV doc pm an cdv ct):=⟨⟨oc,od,kV,doc,pm,an,cdv,ct,osl,rfl,l,c⟩,k⟩
end
theorem Co {A:Around} {k:Nat} (hr:Room k A):A.units + 1 < cLine:=Nat.lt_of_le_of_lt (Nat.add_le_add_left (by decide:1 <= 64) _) hr.units
theorem Ly {n:Nat} (h:n <= 1000):n < sizeLine:=Nat.lt_of_le_of_lt h (by decide)
section
variable {X:Cx}
theorem pv (i:Nat) {x:Str} {pos:Pos} (hN:X.N[i]? = some x:=by rfl) (hv:Vis X.env.scope x:=by first | exact Or.inl rfl | exact Or.inr (Or.inl rfl) | exact Or.inr (Or.inr rfl)) (hd:(x == ("__debug__" : Str)) = false:=by decide)
  (hcd:(x == ("__classdict__" : Str)) = false:=by decide):PE X (.Name x pos) (Ji i):=Ajq hN hv hd hcd
end
theorem Nd {A B:Prop} (h:B):if false = true then A else B:=by
 rw [if_neg Bool.false_ne_true]
 exact h
theorem Jr {A B:Prop} (h:A):if true = true then A else B:=by
 rw [if_pos rfl]
 exact h
theorem Fi {c A B:Prop} [Decidable c] (h1:c->A) (h2:¬ c->B):if c then A else B:=by
 by_cases h:c
 ·rw [if_pos h]
  exact h1 h
 ·rw [if_neg h]
  exact h2 h
def Same (H H':Hp):Prop:=∀ b o,H b = some o->H' b = some o
theorem Same.refl (H:Hp):Same H H:=fun _ _ h=>h
theorem Same.trans {H H1 H2:Hp} (a:Same H H1) (b:Same H1 H2):Same H H2:=fun c o h=>b c o (a c o h)
theorem Same.free {H H':Hp} (e:Same H H') {l:Addr} (h:H' l = Option.none):H l = Option.none:=by
 cases q:H l with
 | none=>rfl
 | some o =>
  rw [e l o q] at h
  cases h
theorem Same.seq {K:PySem.W.Frag} {H H':Hp} {a:Addr} {xs:List V} (e:Same H H') (h:SqL K H a xs):SqL K H' a xs:=by
 rcases h with (h | ⟨o,h⟩) | h
 ·exact .inl (.inl (e _ _ h))
 ·exact .inl (.inr ⟨o,e _ _ h⟩)
 ·exact .inr h
section
variable {κ:Type} [DecidableEq κ]
theorem AaM {kvs:List (κ × V)} {k:κ} {v:V} (h:Ci kvs k = some v):k ∈ kvs.map (·.1):=by
 have q:(kvs.any fun kv=>decide (kv.1 = k)) = true:=by
  rw [Rz,h]
  all_goals rfl
 obtain ⟨p,hp,e⟩:=List.any_eq_true.mp q
 exact List.mem_map.mpr ⟨p,hp,of_decide_eq_true e⟩
end
end L2
set_option Elab.async false
set_option linter.all false
set_option maxRecDepth 100000
set_option maxHeartbeats 4000000
namespace L2
open PySem PySem.Spec PyProof.Rows
section
variable {X:Cx}
theorem Gn:Ou X (.builtin "isinstance") (fun vs H Q=>∃ x n t b,vs = [x,.ty n]/\Ge X.K H x t/\PySem.W.kitOne X.K t (.type n) = some b/\Q (.bl b) H):=by
 intro pins s σ H vs us Q I r h
 obtain ⟨x,n,t,b,rfl,ty,e,q⟩:=h
 obtain ⟨u,w',rfl,rx,ry⟩:=AkJ r
 cases ry
 exact Ac4 I rx ty e fun tk=>⟨.bl b,H,I.tok tk,rfl,q⟩
end
theorem Qk {K:PySem.W.Frag} {T S:String} {b:Bool} (h:(if (Value.type T == Value.type S) = true then some true else if PySem.W.kitMeta S = true then (fastBuiltinMro T).map (·.contains (Value.type S)) else none) = some b):PySem.W.kitOne K (.type T) (.type S) = some b:=h
theorem Aag {K:PySem.W.Frag}:PySem.W.kitOne K (.type "int") (.type "int") = some true:=Qk (by decide +kernel)
theorem Zd {K:PySem.W.Frag}:PySem.W.kitOne K (.type "int") (.type "bool") = some false:=Qk (by decide +kernel)
theorem Aal {K:PySem.W.Frag}:PySem.W.kitOne K (.type "str") (.type "str") = some true:=Qk (by decide +kernel)
theorem Xh {K:PySem.W.Frag}:PySem.W.kitOne K (.type "list") (.type "list") = some true:=Qk (by decide +kernel)
theorem Aai {K:PySem.W.Frag}:PySem.W.kitOne K (.type "tuple") (.type "tuple") = some true:=Qk (by decide +kernel)
inductive EqD (K:PySem.W.Frag) (H:Hp):Nat->V->V->Bool->Prop where
 | flat {n:Nat} {x y:V} (hx:Le x = true) (hy:Le y = true):EqD K H n x y (eqV x y)
 | same {n:Nat} (a:Addr):EqD K H n (.ref a) (.ref a) true
 | lst {n:Nat} {a b:Addr} {xs ys:List V} (e:Nat->Bool) (ne:a ≠ b) (hx:SqL K H a xs) (hy:SqL K H b ys) (hl:xs.length = ys.length)
   (he:∀ (i:Nat) (x y:V),xs[i]? = some x->ys[i]? = some y->EqD K H n x y (e i)):EqD K H (n + 1) (.ref a) (.ref b) ((List.range xs.length).all e)
 | lstN {n:Nat} {a b:Addr} {xs ys:List V} (ne:a ≠ b) (hx:SqL K H a xs) (hy:SqL K H b ys) (hl:¬ xs.length = ys.length):EqD K H (n + 1) (.ref a) (.ref b) false
 | tup {n:Nat} {a b:Addr} {xs ys:List V} (e:Nat->Bool) (ne:a ≠ b) (hx:SqT K H a xs) (hy:SqT K H b ys)
   (he:∀ (i:Nat) (x y:V),xs[i]? = some x->ys[i]? = some y->EqD K H n x y (e i)):EqD K H (n + 1) (.ref a) (.ref b) ((List.range (min xs.length ys.length)).all e && xs.length == ys.length)
section
variable {X:Cx} {pins:List (Addr × Obj)} {σ:St} {H:Hp} {s:Shared}
theorem Nb (A:Around):A.in1.units = A.units + 1:=rfl
theorem Oi {xs ys:List V} {us vs:List Value} {R:Nat->Value->Value->Prop} (r1:Vals xs us) (r2:Vals ys vs)
  (h:∀ (i:Nat) (x y:V) (u v:Value),xs[i]? = some x->ys[i]? = some y->RelV x u->RelV y v->R i u v) :
  ∀ j (h1:j < us.toArray.size) (h2:j < vs.toArray.size),R j us.toArray[j] vs.toArray[j]:=by
 intro j h1 h2
 have h1':j < us.length:=by simpa using h1
 have h2':j < vs.length:=by simpa using h2
 have l1:j < xs.length:=by rw [r1.length]; exact h1'
 have l2:j < ys.length:=by rw [r2.length]; exact h2'
 obtain ⟨u,eu,ru⟩:=r1.get (i:=j) (x:=xs[j]) (by simp [l1])
 obtain ⟨v,ev,rv⟩:=r2.get (i:=j) (x:=ys[j]) (by simp [l2])
 have eu':us[j] = u:=by simpa [h1'] using eu
 have ev':vs[j] = v:=by simpa [h2'] using ev
 have q:=h j xs[j] ys[j] u v (by simp [l1]) (by simp [l2]) ru rv
 simpa [eu',ev'] using q
theorem EqD.at (I:Inv X pins σ H s):∀ {n:Nat} {x y:V} {b:Bool},EqD X.K H n x y b->∀ {A:Around} {u v:Value},A.units + n < cLine->RelV x u->RelV y v->SeqAt.EqAt A s u v b:=by
 intro n x y b h
 induction h with
 | flat hx hy=>intro A u v _ ru rv; exact Adm ru rv hx hy
 | same a=>intro A u v _ ru rv; cases ru; cases rv; exact SeqAt.EqAt.same _
 | @lst n a b xs ys e ne hx hy hl he ih =>
  intro A u v hu ru rv
  cases ru; cases rv
  obtain ⟨us,r1,p1,_⟩:=I.list hx
  obtain ⟨vs,r2,p2,_⟩:=I.list hy
  have es:us.toArray.size = xs.length:=by rw [List.size_toArray]; exact r1.length.symm
  have es2:us.toArray.size = vs.toArray.size:=by rw [es,List.size_toArray,<- r2.length]; exact hl
  refine SeqAt.EqAt.of_refs ne ?_
  rw [<- es]
  exact SeqAt.RcAt.lists p1.isList p2.isList es2 (by omega) (Oi r1 r2 fun i x y u v hx hy ru rv=>ih i x y hx hy (by rw [Nb]; omega) ru rv)
 | @lstN n a b xs ys ne hx hy hl =>
  intro A u v hu ru rv
  cases ru; cases rv
  obtain ⟨us,r1,p1,_⟩:=I.list hx
  obtain ⟨vs,r2,p2,_⟩:=I.list hy
  refine SeqAt.EqAt.of_refs ne (SeqAt.RcAt.lists_lengths p1.isList p2.isList ?_ (by omega))
  rw [List.size_toArray,List.size_toArray,<- r1.length,<- r2.length]
  simpa using hl
 | @tup n a b xs ys e ne hx hy he ih =>
  intro A u v hu ru rv
  cases ru; cases rv
  obtain ⟨us,r1,p1,_⟩:=I.tuple hx
  obtain ⟨vs,r2,p2,_⟩:=I.tuple hy
  have es:us.toArray.size = xs.length:=by rw [List.size_toArray]; exact r1.length.symm
  have es2:vs.toArray.size = ys.length:=by rw [List.size_toArray]; exact r2.length.symm
  refine SeqAt.EqAt.of_refs ne ?_
  rw [<- es,<- es2]
  exact SeqAt.RcAt.tuples p1 p2 (by omega) (Oi r1 r2 fun i x y u v hx hy ru rv=>ih i x y hx hy (by rw [Nb]; omega) ru rv)
def LEq (K:PySem.W.Frag) (H:Hp) (xs ys:List V) (k:Bool):Prop :=
 (¬ xs.length = ys.length/\k = false)\/(xs.length = ys.length/\∃ e:Nat->Bool,(∀ (i:Nat) (x y:V),xs[i]? = some x->ys[i]? = some y->EqD K H 40 x y (e i))/\k = (List.range xs.length).all e)
def Wb (K:PySem.W.Frag) (neg:Bool):R2:=fun x y H Q=>∃ a b xs ys k,x = .ref a/\y = .ref b/\SqL K H a xs/\SqL K H b ys/\LEq K H xs ys k/\Q (.bl (if neg then !k else k)) H
theorem Adb (hu:X.A.units + 64 < cLine):OpR X (compareOp .Eq) (Wb X.K false):=by
 intro pins s σ H x y v u Q I rx ry h
 obtain ⟨a,b,xs,ys,k,rfl,rfl,hx,hy,hk,q⟩:=h
 cases rx; cases ry
 obtain ⟨us,r1,p1,_⟩:=I.list hx
 obtain ⟨vs,r2,p2,_⟩:=I.list hy
 have fin:EP X pins σ Q (.bool k) s:=⟨.bl k,H,I,rfl,q⟩
 rcases hk with ⟨hl,rfl⟩ | ⟨hl,e,he,rfl⟩
 ·refine SeqAt.eq_list_lengthsAt p1.isList p2.isList ?_ (by omega) fin
  rw [List.size_toArray,List.size_toArray,<- r1.length,<- r2.length]
  simpa using hl
 ·have es:us.toArray.size = xs.length:=by rw [List.size_toArray]; exact r1.length.symm
  have es2:us.toArray.size = vs.toArray.size:=by rw [es,List.size_toArray,<- r2.length]; exact hl
  rw [<- es] at fin
  exact SeqAt.eq_listAt p1.isList p2.isList es2 (by omega) (Oi r1 r2 fun i x y u v hx hy ru rv=>(he i x y hx hy).at I (by rw [Nb]; omega) ru rv) fin
theorem AiC (hu:X.A.units + 64 < cLine):OpR X (compareOp .NotEq) (Wb X.K true):=by
 intro pins s σ H x y v u Q I rx ry h
 obtain ⟨a,b,xs,ys,k,rfl,rfl,hx,hy,hk,q⟩:=h
 cases rx; cases ry
 obtain ⟨us,r1,p1,_⟩:=I.list hx
 obtain ⟨vs,r2,p2,_⟩:=I.list hy
 have fin:EP X pins σ Q (.bool (!k)) s:=⟨.bl (!k),H,I,rfl,q⟩
 rcases hk with ⟨hl,rfl⟩ | ⟨hl,e,he,rfl⟩
 ·refine SeqAt.RcNeAt.lists_lengths p1.isList p2.isList ?_ (by omega) _ _ _ _ fin
  rw [List.size_toArray,List.size_toArray,<- r1.length,<- r2.length]
  simpa using hl
 ·have es:us.toArray.size = xs.length:=by rw [List.size_toArray]; exact r1.length.symm
  have es2:us.toArray.size = vs.toArray.size:=by rw [es,List.size_toArray,<- r2.length]; exact hl
  rw [<- es] at fin
  exact SeqAt.RcNeAt.lists p1.isList p2.isList es2 (by omega) (Oi r1 r2 fun i x y u v hx hy ru rv=>(he i x y hx hy).at I (by rw [Nb]; omega) ru rv) _ _ _ _ fin
def Afe (K:PySem.W.Frag) (neg:Bool):R2:=fun x y H Q=>∃ a b xs ys e,x = .ref a/\y = .ref b/\SqT K H a xs/\SqT K H b ys/\(∀ (i:Nat) (x y:V),xs[i]? = some x->ys[i]? = some y->EqD K H 40 x y (e i)) /\
 Q (.bl (if neg then !((List.range (min xs.length ys.length)).all e && xs.length == ys.length) else ((List.range (min xs.length ys.length)).all e && xs.length == ys.length))) H
theorem AiR (hu:X.A.units + 64 < cLine):OpR X (compareOp .Eq) (Afe X.K false):=by
 intro pins s σ H x y v u Q I rx ry h
 obtain ⟨a,b,xs,ys,e,rfl,rfl,hx,hy,he,q⟩:=h
 cases rx; cases ry
 obtain ⟨us,r1,p1,_⟩:=I.tuple hx
 obtain ⟨vs,r2,p2,_⟩:=I.tuple hy
 have es:us.toArray.size = xs.length:=by rw [List.size_toArray]; exact r1.length.symm
 have es2:vs.toArray.size = ys.length:=by rw [List.size_toArray]; exact r2.length.symm
 have fin:EP X pins σ Q (.bool ((List.range (min xs.length ys.length)).all e && xs.length == ys.length)) s:=⟨.bl _,H,I,rfl,q⟩
 rw [<- es,<- es2] at fin
 exact SeqAt.eq_tupleAt p1 p2 (by omega) (Oi r1 r2 fun i x y u v hx hy ru rv=>(he i x y hx hy).at I (by rw [Nb]; omega) ru rv) fin
end
section
variable {X:Cx} {pins:List (Addr × Obj)} {σ:St} {H:Hp} {s:Shared} {a:Addr}
def Frb:HO->Prop
 | .dK _=>True
 | .dT _=>True
 | _=>False
theorem Frb.notup {u:HO} (h:Frb u) (xs:List V):u ≠ .tup xs:=by intro e; subst e; exact h
theorem Frb.nofrz {u:HO} (h:Frb u) (o:Obj) (v:HO):u ≠ .frz o v:=by intro e; subst e; exact h
theorem Frb.noown {u:HO} (h:Frb u) (x:Addr):u ≠ .own x:=by intro e; subst e; exact h
theorem Frb.notbl {u:HO} (h:Frb u) (ps:Array Value):u ≠ .tbl ps:=by intro e; subst e; exact h
def AbA (X:Cx) (a:Addr):Prop:=(∀ xs,X.H₀ a ≠ some (.tup xs))/\(∀ o v,X.H₀ a ≠ some (.frz o v))/\∀ ps,X.H₀ a ≠ some (.tbl ps)
theorem Inv.free0 (I:Inv X pins σ H s) {u:HO} (hu:Frb u) (e:H a = some u):AbA X a:=by
 refine ⟨fun xs q=>?_,fun o v q=>?_,fun ps q=>?_⟩
 ·have:=I.base.tups a xs q; rw [e] at this; exact hu.notup xs (Option.some.inj this)
 ·have:=I.base.frzs a o v q; rw [e] at this; exact hu.nofrz o v (Option.some.inj this)
 ·obtain ⟨m,this⟩:=I.base.tbls a ps q; rw [e] at this; exact hu.notbl _ (Option.some.inj this)
theorem Inv.swap {u v:HO} (I:Inv X pins σ H s) (hu:∀ x,u ≠ .own x) (hu2:∀ xs,u ≠ .tup xs) (e:H a = some u) (f:AbA X a) (ok:ObjOk X.prog X.w (upd H a v) s.heap a v):Inv X pins σ (upd H a v) s:=by
 have nown:∀ b x,H b = some (.own x)->b ≠ a:=fun b x q z=>by subst z; rw [e] at q; exact hu x (Option.some.inj q)
 have ntup:∀ b xs,H b = some (.tup xs)->b ≠ a:=fun b xs q z=>by subst z; rw [e] at q; exact hu2 xs (Option.some.inj q)
 have nnone:∀ b,H b = none->b ≠ a:=fun b q z=>by subst z; rw [e] at q; cases q
 refine ⟨I.ok,I.os,I.bare,⟨I.base.keep,I.base.slot,fun b o h1 h2 h3=>?_,I.base.there,fun b xs q=>?_,fun b o w q=>?_,fun b ps q=>?_⟩,I.loc,I.cell,?_,fun x c q=>?_,fun p hp=>?_,fun b o q=>?_,I.len⟩
 ·have q:=I.base.free b o h1 h2 h3
  rw [Bg (nnone b q)]; exact q
 ·have h:b ≠ a:=fun z=>by subst z; exact f.1 xs q
  rw [Bg h]; exact I.base.tups b xs q
 ·have h:b ≠ a:=fun z=>by subst z; exact f.2.1 o w q
  rw [Bg h]; exact I.base.frzs b o w q
 ·have h:b ≠ a:=fun z=>by subst z; exact f.2.2 ps q
  rw [Bg h]; exact I.base.tbls b ps q
 ·rw [Bg (nnone _ I.free)]; exact I.free
 ·rw [Bg (nnone _ (I.freeC x c q))]; exact I.freeC x c q
 ·obtain ⟨h1,h2,h3⟩:=I.pin p hp
  exact ⟨h1,by rw [Bg (nnone _ h2)]; exact h2,h3⟩
 ·by_cases hb:b = a
  ·subst hb; rw [Bl] at q; cases q; exact ok
  ·rw [Bg hb] at q
   exact (I.hok b o q).stay (fun _ _ _ z=>z) (fun c z=>by rw [Bg (nown c b z)]; exact z) fun c xs z=>by rw [Bg (ntup c xs z)]; exact z
theorem ObjOk.heap {P:Program} {w:World} {h:Heap} {H':Hp} {u:HO} (x:ObjOk P w H h a u) (hd:∀ b xs,H b = some (.tup xs)->H' b = some (.tup xs)) (ho:∀ b,H b = some (.own a)->H' b = some (.own a)):ObjOk P w H' h a u :=
 x.stay (fun _ _ _ z=>z) ho hd
theorem Inv.freeze {u:HO} (I:Inv X pins σ H s) (hu:Frb u) (e:H a = some u):∃ o,Inv X pins σ (upd H a (.frz o u)) s:=by
 have ok:=I.hok a u e
 obtain ⟨o,ho⟩:∃ o,s.heap.get? a = some o:=by
  cases u with
  | dK kvs=>obtain ⟨_,_,_,_,o,_,_,h,_⟩:=ok; exact ⟨o,h⟩
  | dT kvs=>obtain ⟨_,_,_,_,o,_,_,h,_⟩:=ok; exact ⟨o,h⟩
  | _=>exact hu.elim
 refine ⟨o,I.swap (fun x=>hu.noown x) (fun xs=>hu.notup xs) e (I.free0 hu e) ⟨ho,ok.heap (fun b xs q=>?_) fun b q=>?_⟩⟩
 ·rw [Bg (fun z=>by subst z; rw [e] at q; exact hu.notup xs (Option.some.inj q))]; exact q
 ·rw [Bg (fun z=>by subst z; rw [e] at q; exact hu.noown _ (Option.some.inj q))]; exact q
theorem Inv.thaw {u:HO} {o:Obj} (I:Inv X pins σ H s) (f:AbA X a) (e:H a = some (.frz o u)):Inv X pins σ (upd H a u) s:=by
 obtain ⟨ho,ok⟩:=(show ObjOk X.prog X.w H s.heap a (.frz o u) from I.hok a _ e)
 refine I.swap (by intro x z; cases z) (by intro xs z; cases z) e f (ok.heap (fun b xs q=>?_) fun b q=>?_)
 ·rw [Bg (fun z=>by subst z; rw [e] at q; cases q)]; exact q
 ·rw [Bg (fun z=>by subst z; rw [e] at q; cases q)]; exact q
def Qj (a:Addr) (u:HO) (D:Ends):Ends where
 nx:=fun σ H=>∃ o,H a = some (.frz o u)/\D.nx σ (upd H a u)
 rt:=fun v H=>∃ o,H a = some (.frz o u)/\D.rt v (upd H a u)
 bk:=fun σ H=>∃ o,H a = some (.frz o u)/\D.bk σ (upd H a u)
 ct:=fun σ H=>∃ o,H a = some (.frz o u)/\D.ct σ (upd H a u)
def AeX (t:TS):TS:=fun D σ H=>∃ a u,Frb u/\H a = some u/\∀ o,t (Qj a u D) σ (upd H a (.frz o u))
theorem AdD {st:Stmt} {t:TS} (h:PS X st t):PS X st (AeX t):=by
 intro pins s σ H D I q
 obtain ⟨a,u,hu,e,q⟩:=q
 have f:=I.free0 hu e
 obtain ⟨o,I1⟩:=I.freeze hu e
 refine thn (h pins s σ _ _ I1 (q o)) fun fl s' hs=>?_
 cases fl with
 | next=>obtain ⟨σ',H',I',o',e',q'⟩:=hs; exact ⟨σ',_,I'.thaw f e',q'⟩
 | brk=>obtain ⟨σ',H',I',o',e',q'⟩:=hs; exact ⟨σ',_,I'.thaw f e',q'⟩
 | cont=>obtain ⟨σ',H',I',o',e',q'⟩:=hs; exact ⟨σ',_,I'.thaw f e',q'⟩
 | ret v=>obtain ⟨x,σ',H',I',r,o',e',q'⟩:=hs; exact ⟨x,σ',_,I'.thaw f e',r,q'⟩
end
def Itd (a:Addr) (o:Obj) (kvs:List (Key × V)):It :=
 ⟨fun i H=>H a = some (.frz o (.dK kvs))/\i < kvs.length,fun i H x H'=>H' = H/\∃ kv,kvs[i]? = some kv/\x = kV kv.1,fun i H=>H a = some (.frz o (.dK kvs))/\kvs.length <= i⟩
theorem Abd {P:Program} {w:World} {k:Key} {u:Value} (h:(Dc P w).is k u = true):RelV (kV k) u:=by
 rcases Fb h with ⟨i,t,rfl,rfl⟩ | ⟨x,t,rfl,rfl⟩
 ·exact ⟨t,rfl⟩
 ·exact ⟨t,rfl⟩
theorem Rc {P:Program} {w:World} {H:Hp} {h:Heap} {a:Addr} {o:Obj} {kvs:List (Key × V)} {es:Array DictEntry} {ep:Nat} (ok:HOk P w H h) (e:H a = some (.frz o (.dK kvs))) (hd:o.data = .dict es ep) :
  (a == sysModules) = false/\∃ vs,KV kvs vs/\h.DictAt (Dc P w) a vs ep:=by
 obtain ⟨ho,_,hm,vs,r,o',es',ep',h1,h2,h3,h4⟩:=(show ObjOk P w H h a (.frz o (.dK kvs)) from ok a _ e)
 rw [ho] at h1
 cases h1
 rw [hd] at h3
 cases h3
 exact ⟨hm,vs,r,o,es,ho,h2,hd,h4⟩
theorem Ads {P:Program} {w:World} {K:PySem.W.Frag} {tg:Expr} (a it:Addr) (o:Obj) (kvs:List (Key × V)) (es:Array DictEntry) (ep:Nat) (hd:o.data = .dict es ep) :
  Sn P w K tg (Itd a o kvs) [it] it (fun i h=>h.IsKeyIter it a i kvs.length ep) where
 mem:=by simp
 obj:=fun i h st b hb=>by
  have e:b = it:=by simpa using hb
  subst e
  obtain ⟨o,e,c,d⟩:=st
  exact ⟨o,e,fun v z=>by rw [d] at z; cases z⟩
 keep:=fun i h h' st k=>by
  obtain ⟨o,e,r⟩:=st
  exact ⟨o,k it (by simp) o e,r⟩
 item:=by
  intro X hP hw hK hc i pins s σ H E I hf st hg
  subst hP hw hK
  obtain ⟨hz,hi⟩:=hg
  obtain ⟨hm,vs,r,da⟩:=Rc I.hok hz hd
  have hl:kvs.length = vs.length:=Paired.length r
  obtain ⟨f0,f1,f2,f3,f4,f5⟩:=hf it (by simp)
  have hiv:i < vs.length:=by omega
  have ek:(kvs[i]).1 = (vs[i]).1:=by
   have q:=KV.keys r
   have q1:=congrArg (fun l=>l[i]?) q
   simp only [List.getElem?_map,List.getElem?_eq_getElem hi,List.getElem?_eq_getElem hiv,Option.map_some,Option.some.injEq] at q1
   exact q1
  refine wpAny_pyNext_dict_item (k:=(vs[i]).1) (v:=(vs[i]).2) (kvs:=vs) (by rw [<- hl]; exact st) da (by rw [List.getElem?_eq_getElem hiv]) fun key h' hkey st' sb=>?_
  have I1:Inv X pins σ H { s with heap:=h' }:=I.turned (t':=s.toks) (fun b o hb e=>(sb.2 b hb).trans e) f0 f1 f3 f4 f5
  rw [<- hl] at st'
  obtain ⟨o',e',c',d'⟩:=id st'
  exact ⟨key,rfl,Xn (s:={ s with heap:=h' }) e' c' d' (by decide) ⟨kV (kvs[i]).1,H,I1,by rw [ek]; exact Abd hkey,⟨rfl,kvs[i],List.getElem?_eq_getElem hi,rfl⟩,st',fun b hb=>(hf b hb).1⟩⟩
 done:=by
  intro X hP hw hK hc i pins s σ H E I hf st hg
  subst hP hw hK
  obtain ⟨hz,hi⟩:=hg
  obtain ⟨hm,vs,r,da⟩:=Rc I.hok hz hd
  have hl:kvs.length = vs.length:=Paired.length r
  obtain ⟨f0,f1,f2,f3,f4,f5⟩:=hf it (by simp)
  exact wpAny_pyNext_dict_end (kvs:=vs) (I.ok.hd hc) (by rw [<- hl]; exact st) da (List.getElem?_eq_none (by omega)) fun h' eb=>⟨rfl,I.turned (t':=s.toks) (fun b o hb e=>eb b o hb e) f0 f1 f3 f4 f5⟩
 self:=fun _ _ _ _ _ st h=>wpAny_pyIter_keyiter st h
section
variable {X:Cx} {tg:Expr}
def iDk (tl:TE):TI:=fun σ H R=>tl σ H fun x H1=>∃ a o kvs,x = .ref a/\H1 a = some (.frz o (.dK kvs))/\R (Itd a o kvs) H1
theorem Afn {l:Expr} {tl:TE} (hl:PE X l tl):PI X tg l (iDk tl):=by
 intro pins s σ H R I h
 refine thn (hl pins s σ H _ I h) fun v s1 ⟨x,H1,I1,r1,q1⟩=>?_
 obtain ⟨a,o,kvs,e,hz,q⟩:=q1
 subst e
 cases r1
 obtain ⟨ho,_,hm,vs,r,o',es,ep,h1,h2,h3,h4⟩:=(show ObjOk X.prog X.w H1 s1.heap a (.frz o (.dK kvs)) from I1.hok a _ hz)
 rw [ho] at h1
 cases h1
 have hl:kvs.length = vs.length:=Paired.length r
 refine wpAny_pyIter_dict (knd:=Dc X.prog X.w) (kvs:=vs) (ep:=ep) hm ⟨o,es,ho,h2,h3,h4⟩ ?_
 refine ⟨s1.heap.objs.size,[s1.heap.objs.size],_,_,H1,rfl,I1.kept (t':=s1.toks) fun b o e=>Heap.get?_push_of_some _ e,Ads a _ o kvs es ep h3,⟨_,Heap.get?_push_size _ rfl,rfl,by rw [hl]; rfl⟩,fun b hb=>?_,q⟩
 have e:b = s1.heap.objs.size:=by simpa using hb
 subst e
 exact I1.fpOk (Nat.le_refl _) (I1.hok.fresh (Nat.le_refl _))
theorem Acp {a:Addr} {o:Obj} {kvs:List (Key × V)} {g:TG} {tb:TS} {D:Ends} {σ:St} {H:Hp} (Pv:Nat->St->Hp->Prop) (h0:Pv 0 σ H) (hl:∀ i σ H,i <= kvs.length->Pv i σ H->H a = some (.frz o (.dK kvs)))
  (hs:∀ i kv σ H,kvs[i]? = some kv->Pv i σ H->g (kV kv.1) σ H fun σ2 H2=>tb { D with nx:=Pv (i + 1),ct:=Pv (i + 1),bk:=D.nx } σ2 H2) (hd:∀ σ H,Pv kvs.length σ H->D.nx σ H) :
  ∃ W:Nat->Nat->St->Hp->Prop,(∃ m,W 0 m σ H)/\∀ i m σ H,W i m σ H ->
   ((Itd a o kvs).stop i H/\D.nx σ H)\/((Itd a o kvs).go i H/\∃ N:St->Hp->Prop,(∀ σ' H',N σ' H'->∃ m',m' < m/\W (i + 1) m' σ' H')/\∀ x H',(Itd a o kvs).yld i H x H'->g x σ H' fun σ2 H2=>tb { D with nx:=N,ct:=N,bk:=D.nx } σ2 H2):=by
 refine ⟨fun i m σ H=>m = kvs.length - i/\i <= kvs.length/\Pv i σ H,⟨kvs.length,by simp,Nat.zero_le _,h0⟩,?_⟩
 rintro i m σ H ⟨rfl,hi,p⟩
 have q:=hl i σ H hi p
 by_cases hlt:i < kvs.length
 ·refine .inr ⟨⟨q,hlt⟩,Pv (i + 1),fun σ' H' p'=>⟨kvs.length - (i + 1),by omega,rfl,hlt,p'⟩,fun x H' y=>?_⟩
  obtain ⟨e,kv,y1,y2⟩:=y
  subst e y2
  exact hs i kv σ _ y1 p
 ·have e:i = kvs.length:=by omega
  subst e
  exact .inl ⟨⟨q,Nat.le_refl _⟩,hd σ H p⟩
end
def Iti (a:Addr) (o:Obj) (kvs:List (Key × V)):It :=
 ⟨fun i H=>H a = some (.frz o (.dK kvs))/\i < kvs.length,fun i H x H'=>∃ t kv,H t = none/\kvs[i]? = some kv/\x = .ref t/\H' = upd H t (.tup [kV kv.1,kv.2]),fun i H=>H a = some (.frz o (.dK kvs))/\kvs.length <= i⟩
theorem Aci {κ:Type}:∀ {kvs:List (κ × V)} {vs:List (κ × Value)} {i:Nat} {kv:κ × V},KV kvs vs->kvs[i]? = some kv->∃ v,vs[i]? = some (kv.1,v)/\RelV kv.2 v
 | _,_,_,_,.nil,e=>by simp at e
 | _,(k',v') :: _,0,_,.cons r _,e=>by
  simp at e; subst e
  obtain ⟨h1,h2⟩:=r
  exact ⟨v',by simp [h1],h2⟩
 | _,_,i + 1,kv,.cons _ t,e=>by
  obtain ⟨v,h1,h2⟩:=Aci (i:=i) (kv:=kv) t (by simpa using e)
  exact ⟨v,by simpa using h1,h2⟩
theorem AbM {P:Program} {w:World} {K:PySem.W.Frag} {elts:List Expr} {x1:Nat} {tp:Pos} (a it:Addr) (o:Obj) (kvs:List (Key × V)) (es:Array DictEntry) (ep:Nat) (hd:o.data = .dict es ep) :
  Sn P w K (.Tuple elts x1 tp) (Iti a o kvs) [it] it (fun i h=>∃ ok ov,IsItemIter h it a i kvs.length ep ok ov) where
 mem:=by simp
 obj:=fun i h st b hb=>by
  have e:b = it:=by simpa using hb
  subst e
  obtain ⟨ok,ov,e⟩:=st
  exact ⟨_,e,fun v z=>nomatch z⟩
 keep:=fun i h h' st k=>by
  obtain ⟨ok,ov,e⟩:=st
  exact ⟨ok,ov,k it (by simp) _ e⟩
 item:=by
  intro X hP hw hK hc i pins s σ H E I hf st hg
  subst hP hw hK
  obtain ⟨hz,hi⟩:=hg
  obtain ⟨ok,ov,st⟩:=st
  obtain ⟨hm,vs,r,da⟩:=Rc I.hok hz hd
  have hl:kvs.length = vs.length:=Paired.length r
  obtain ⟨f0,f1,f2,f3,f4,f5⟩:=hf it (by simp)
  obtain ⟨v,hv,rv⟩:=Aci (i:=i) (kv:=kvs[i]) r (List.getElem?_eq_getElem hi)
  have hit:it < s.heap.objs.size:=Heap.lt_size st
  have hne:s.heap.objs.size ≠ it:=Nat.ne_of_gt hit
  have hfr:H s.heap.objs.size = none:=I.hok.fresh (Nat.le_refl _)
  rw [hl] at st
  refine wpAny_pyNext_items_item st da hv fun key h' hkey ho hT hsz hk=>⟨_,rfl,?_⟩
  refine wpAny_letOwnedTupleGo_items (s:={ s with heap:=h' }) ho fun h2 he hs=>?_
  have hs2:∀ b,b ≠ it->h2.get? b = h'.get? b:=hs.2
  have kp:∀ b o,b ≠ it->s.heap.get? b = some o->h2.get? b = some o:=fun b o hb e=>(hs2 b hb).trans (hk b o hb e)
  have hT2:h2.get? s.heap.objs.size = some { cls:=.type "tuple",data:=.seq #[key,v] }:=(hs2 _ hne).trans hT
  have nt:∀ b u,H b = some u->b ≠ s.heap.objs.size:=fun b u e=>Bm e hfr
  rw [<- hl] at he
  refine ⟨.ref s.heap.objs.size,upd H s.heap.objs.size (.tup [kV (kvs[i]).1,(kvs[i]).2]),?_,rfl,⟨_,_,hfr,List.getElem?_eq_getElem hi,rfl,rfl⟩,⟨_,_,he⟩,fun b hb=>?_⟩
  ·refine Inv.step (s:=s) (h':=h2) I (g':=s.gens) (d':=s.drawn) (t':=s.toks) (ch:=[it]) (fun b hb=>?_) (fun b o _ _ hc e _=>kp b o (fun z=>hc (by simp [z])) e) (fun b o _ _ hc e _=>⟨o.slots,kp b o (fun z=>hc (by simp [z])) e⟩)
    (fun b o hc e n=>by rw [Bg (Nat.ne_of_lt (Heap.lt_size e))]; exact n) (fun b o hc e=>⟨o,kp b o (fun z=>hc (by simp [z])) e⟩) (fun b xs e=>by rw [Bg (nt b _ e)]; exact e) (fun b o u e=>by rw [Bg (nt b _ e)]; exact e)
    (fun b ps e=>⟨#[],by rw [Bg (nt b _ e),e]; simp⟩) (fun m hm=>?_) (fun b u e=>?_) I.bare
   ·have e:b = it:=by simpa using hb
    subst e
    exact ⟨f3,f1,f4,f5⟩
   ·obtain ⟨o,es,ep,ho,r⟩:=hm
    exact ⟨o,es,ep,kp _ o (Ne.symm f1) ho,r⟩
   ·by_cases hb:b = s.heap.objs.size
    ·subst hb
     rw [Bl] at e
     cases e
     exact ⟨by show 2 <= sizeLine; decide,[key,v],.cons (Abd hkey) (.cons rv .nil),_,hT2,rfl,_,rfl⟩
    ·rw [Bg hb] at e
     have nit:∀ c w,H c = some w->c ≠ it:=fun c w e z=>by rw [z,f0] at e; cases e
     refine (I.hok b u e).stay (fun c v hc q=>kp c v ?_ q) (fun c q=>by rw [Bg (nt c _ q)]; exact q) fun c xs q=>by rw [Bg (nt c _ q)]; exact q
     rcases hc with z | z
     ·rw [z]; exact nit b u e
     ·exact nit c _ z
  ·have e:b = it:=by simpa using hb
   rw [e,Bg (Ne.symm hne)]
   exact f0
 done:=by
  intro X hP hw hK hc i pins s σ H E I hf st hg
  subst hP hw hK
  obtain ⟨hz,hi⟩:=hg
  obtain ⟨ok,ov,st⟩:=st
  obtain ⟨hm,vs,r,da⟩:=Rc I.hok hz hd
  have hl:kvs.length = vs.length:=Paired.length r
  obtain ⟨f0,f1,f2,f3,f4,f5⟩:=hf it (by simp)
  rw [hl] at st
  exact wpAny_pyNext_items_end (I.ok.hd hc) st da (List.getElem?_eq_none (by omega)) fun h' eb=>⟨rfl,I.turned (t':=s.toks) (fun b o hb e=>eb b o hb e) f0 f1 f3 f4 f5⟩
 self:=fun A i s Q E st h=>by
  obtain ⟨ok,ov,e⟩:=st
  exact PySem.W.kcp_self e h
section
variable {X:Cx} {elts:List Expr} {x1:Nat} {tp apos cpos:Pos}
def iDi (tl:TE):TI:=fun σ H R=>tl σ H fun x H1=>∃ a o kvs,x = .ref a/\H1 a = some (.frz o (.dK kvs))/\R (Iti a o kvs) H1
theorem Adp {l:Expr} {tl:TE} (hl:PE X l tl) (hbase:attributeBase l "items" X.env (eval l X.env) = eval l X.env:=by rfl) (hline:(apos.endLine == cpos.line) = true:=by rfl) :
  PI X (.Tuple elts x1 tp) (.Call (.Attribute l "items" apos) [] [] cpos) (iDi tl):=by
 intro pins s σ H R I h
 refine wpAny_Call_method0_late hbase hline (thn (hl pins s σ H _ I h) fun v s1 ⟨x,H1,I1,r1,q1⟩=>?_)
 obtain ⟨a,o,kvs,e,hz,q⟩:=q1
 subst e
 cases r1
 obtain ⟨ho,_,hm,vs,r,o',es,ep,h1,h2,h3,h4⟩:=(show ObjOk X.prog X.w H1 s1.heap a (.frz o (.dK kvs)) from I1.hok a _ hz)
 rw [ho] at h1
 cases h1
 have hlen:kvs.length = vs.length:=Paired.length r
 have da:s1.heap.DictAt (Dc X.prog X.w) a vs ep:=⟨o,es,ho,h2,h3,h4⟩
 refine ⟨"dict","dict.items",PySem.F.plainAttrs_dict,PySem.F.slot_dict_items,PySem.F.type_dict_items,⟨o,ho,h2.1⟩,fun b eb=>?_,Calls.callWith_builtin rfl (PySem.evalArgs_none ?_)⟩
 ·cases eb
  exact ⟨o,ho,h2.2.1⟩
 refine call_meetsIn PySem.F.slot_dict_items da.dictOf.typeIs PySem.F.entry_dict_items (PySem.F.args_dict_items_1 _) (meets_dict_items (Dc X.prog X.w) a hm) ⟨⟨vs,da.dictOf⟩,?_⟩
 refine wpAny_pyIter_items (s:={ s1 with heap:=s1.heap.push { cls:=.type "dict_items",data:=.fields #[.ref a] } }) (knd:=Dc X.prog X.w) (kvs:=vs) (ep:=ep) ⟨_,Heap.get?_push_size _ rfl,rfl,rfl⟩ (da.push _) ?_
 have I2:Inv X pins σ H1 { s1 with heap:=s1.heap.push { cls:=.type "dict_items",data:=.fields #[.ref a] } }:=I1.kept (t':=s1.toks) fun b o e=>Heap.get?_push_of_some _ e
 refine ⟨_,[_],_,_,H1,rfl,I2.kept (t':=s1.toks) fun b o e=>Heap.get?_push_of_some _ e,AbM a _ o kvs es ep h3,⟨.none,.none,by rw [hlen]; exact Heap.get?_push_size _ rfl⟩,fun b hb=>?_,q⟩
 have e:=List.mem_singleton.mp hb
 subst e
 exact I2.fpOk (Nat.le_refl _) (I2.hok.fresh (Nat.le_refl _))
theorem AbV {a:Addr} {o:Obj} {kvs:List (Key × V)} {g:TG} {tb:TS} {D:Ends} {σ:St} {H:Hp} (Pv:Nat->St->Hp->Prop) (h0:Pv 0 σ H) (hl:∀ i σ H,i <= kvs.length->Pv i σ H->H a = some (.frz o (.dK kvs)))
  (hs:∀ i kv t σ H,kvs[i]? = some kv->H t = none->Pv i σ H->g (.ref t) σ (upd H t (.tup [kV kv.1,kv.2])) fun σ2 H2=>tb { D with nx:=Pv (i + 1),ct:=Pv (i + 1),bk:=D.nx } σ2 H2) (hd:∀ σ H,Pv kvs.length σ H->D.nx σ H) :
  ∃ W:Nat->Nat->St->Hp->Prop,(∃ m,W 0 m σ H)/\∀ i m σ H,W i m σ H ->
   ((Iti a o kvs).stop i H/\D.nx σ H)\/((Iti a o kvs).go i H/\∃ N:St->Hp->Prop,(∀ σ' H',N σ' H'->∃ m',m' < m/\W (i + 1) m' σ' H')/\∀ x H',(Iti a o kvs).yld i H x H'->g x σ H' fun σ2 H2=>tb { D with nx:=N,ct:=N,bk:=D.nx } σ2 H2):=by
 refine ⟨fun i m σ H=>m = kvs.length - i/\i <= kvs.length/\Pv i σ H,⟨kvs.length,by simp,Nat.zero_le _,h0⟩,?_⟩
 rintro i m σ H ⟨rfl,hi,p⟩
 have q:=hl i σ H hi p
 by_cases hlt:i < kvs.length
 ·refine .inr ⟨⟨q,hlt⟩,Pv (i + 1),fun σ' H' p'=>⟨kvs.length - (i + 1),by omega,rfl,hlt,p'⟩,fun x H' y=>?_⟩
  obtain ⟨t,kv,ht,y1,y2,y3⟩:=y
  subst y2 y3
  exact hs i kv t σ _ y1 ht p
 ·have e:i = kvs.length:=by omega
  subst e
  exact .inl ⟨⟨q,Nat.le_refl _⟩,hd σ H p⟩
end
end L2
set_option Elab.async false
set_option linter.all false
set_option maxRecDepth 100000
set_option maxHeartbeats 4000000
namespace L2
open PySem PySem.Spec PyProof.Rows
section
variable {σ:St} {H:Hp} {Q:VK} {B:Bool->Hp->Prop} {v x y:V} {ta tb tc:TE} {tA tB':TT} {D:Ends} {t u:TS} {K:PySem.W.Frag}
theorem AkV {i:Nat} (h:σ[i]? = some (some v)) (q:Q v H):Ji i σ H Q:=⟨v,h,q⟩
theorem i_c (q:Q v H):tC v σ H Q:=q
theorem AlP {r:R2} (q:ta σ H fun x H1=>tb σ H1 fun y H2=>r x y H2 Q):tOp r ta tb σ H Q:=q
theorem AlB {r:V->Hp->VK->Prop} (q:ta σ H fun x H1=>r x H1 Q):tUn r ta σ H Q:=q
theorem AlF {g:Int->V} {i:Int} (q:Q (g i) H):rU g (.int i) H Q:=⟨i,rfl,q⟩
theorem AkC {g:Int->Int->V} {i j:Int} (q:Q (g i j) H):rI0 g (.int i) (.int j) H Q:=⟨i,j,rfl,rfl,q⟩
theorem Dd {C:Int->Int->Prop} {g:Int->Int->V} {i j:Int} (c:C i j) (q:Q (g i j) H):rI C g (.int i) (.int j) H Q:=⟨i,j,rfl,rfl,c,q⟩
theorem Afu {i j:Int}:decide (V.int i = V.int j) = decide (i = j):=by
 by_cases h:i = j
 ·subst h; simp
 ·rw [decide_eq_false h,decide_eq_false fun e=>h (V.int.inj e)]
theorem AgF {i j:Str}:decide (V.str i = V.str j) = decide (i = j):=by
 by_cases h:i = j
 ·subst h; simp
 ·rw [decide_eq_false h,decide_eq_false fun e=>h (V.str.inj e)]
theorem AgD {i j:Int} (q:Q (.bl (decide (i = j))) H):rEq (.int i) (.int j) H Q:=⟨rfl,by rw [Afu]; exact q⟩
theorem Agv {i j:Str} (q:Q (.bl (decide (i = j))) H):rEq (.str i) (.str j) H Q:=⟨rfl,by rw [AgF]; exact q⟩
theorem Agx {i j:Int} (q:Q (.bl (!decide (i = j))) H):rNe (.int i) (.int j) H Q:=⟨rfl,by rw [Afu]; exact q⟩
theorem Agc {i j:Str} (q:Q (.bl (!decide (i = j))) H):rNe (.str i) (.str j) H Q:=⟨rfl,by rw [AgF]; exact q⟩
theorem AlN {t:TE} (q:t σ H fun x H1=>∃ c,x = .bl c/\B c H1):tB t σ H B:=q
theorem AjU {t:TE} (q:t σ H fun x H1=>∃ c,x = .bl c/\B c H1):AbZ t σ H B:=q
theorem Akm {b:Bool} {P:Bool->Prop} (q:P b):∃ c,V.bl b = V.bl c/\P c:=⟨b,rfl,q⟩
theorem AlV (q:tA σ H fun c H1=>if c = true then B true H1 else tB' σ H1 B):tOr tA tB' σ H B:=q
theorem Alq (q:tA σ H fun c H1=>B (!c) H1):AdZ tA σ H B:=q
theorem Ai1 (q:ta σ H fun x H1=>∃ c,x = .bl c/\if c = true then tb σ H1 Q else Q (.bl false) H1):AfP ta tb σ H Q:=q
theorem Ah5 (q:ta σ H fun x H1=>∃ c,x = .bl c/\Q (.bl (!c)) H1):Afx ta σ H Q:=q
theorem AbC (q:t { D with nx:=u D } σ H):AeC t u D σ H:=q
theorem AlX (q:D.nx σ H):Abl D σ H:=q
theorem AjS (q:ta σ H fun _ H1=>D.nx σ H1):Vd ta D σ H:=q
theorem Akv (q:ta σ H D.rt):Ze ta D σ H:=q
theorem AlI (q:tA σ H fun b H1=>if b = true then t D σ H1 else u D σ H1):AeP tA t u D σ H:=q
theorem Akw {g:TG} (q:ta σ H fun x H1=>g x σ H1 D.nx):Sh ta g D σ H:=q
theorem AgW {i:Nat} {R:St->Hp->Prop} (q:R (σ.set i (some v)) H):Lx i v σ H R:=q
theorem Ai8 {n:Nat} {a:Addr} {xs:List V} {g:TGs} {R:St->Hp->Prop} (h:SqT K H a xs) (hl:xs.length = n) (q:g xs σ H R):Zy K n g (.ref a) σ H R:=⟨a,xs,rfl,h,hl,q⟩
theorem Ahq {g:TG} {gs:TGs} {vs:List V} {R:St->Hp->Prop} (q:g v σ H fun σ' H'=>gs vs σ' H' R):Abh g gs (v :: vs) σ H R:=⟨v,vs,rfl,q⟩
theorem Aij {R:St->Hp->Prop} (q:R σ H):AeW [] σ H R:=⟨rfl,q⟩
theorem Aih {sp:Sp} {dvs:List V} {E:XK} {t:TA} (q:t σ H fun vs H1=>sp (vs ++ dvs) H1 Q E):Oz sp dvs E t σ H Q:=q
theorem Ajo {C:Addr} {m:Str} {sp:Sp} {dvs:List V} {E:XK} {t:TA} (q:ta σ H fun x H1=>∃ a dx fs,x = .ref a/\H1 a = some (.ins C dx fs)/\fs.lookup m = none/\t σ H1 fun vs H2=>sp (x :: (vs ++ dvs)) H2 Q E):Uw C m sp dvs E ta t σ H Q:=q
theorem AkA {R:List V->Hp->Prop} (q:R [] H):Ot σ H R:=q
theorem Ah3 {tr:TA} {R:List V->Hp->Prop} (q:ta σ H fun x H1=>tr σ H1 fun xs H2=>R (x :: xs) H2):Gu ta tr σ H R:=q
theorem Ak1 {t:TA} (q:t σ H fun xs H1=>xs.length <= sizeLine/\∀ p,H1 p = none->Q (.ref p) (upd H1 p (.tup xs))):Aiy t σ H Q:=q
theorem Alr {f:Str} (q:ta σ H fun x H1=>∃ a C dx fs v,x = .ref a/\H1 a = some (.ins C dx fs)/\Cls K C/\NoAttr K C f/\fs.lookup f = some v/\Q v H1):Akf K ta f σ H Q:=q
theorem AlM {r:List V->Hp->VK->Prop} {t:TA} (q:t σ H fun vs H1=>r vs H1 Q):tCB r t σ H Q:=q
theorem Ak2 (q:ta σ H fun y H1=>tb σ H1 fun x H2=>∃ a o,x = .ref a/\DGet H2 a y o/\Q (.bl o.isSome) H2):Afa ta tb σ H Q:=q
theorem Ae6 (q:ta σ H fun y H1=>tb σ H1 fun x H2=>∃ a o,x = .ref a/\DGet H2 a y o/\Q (.bl (!o.isSome)) H2):AaA ta tb σ H Q:=q
theorem AiY (q:ta σ H fun x H1=>tb σ H1 fun y H2=>∃ a v,x = .ref a/\DGet H2 a y (some v)/\Q v H2):AbO ta tb σ H Q:=q
theorem AgO (q:ta σ H fun x H1=>∃ a,x = .ref a/\IsD H1 a/\tb σ H1 fun y H2=>∃ o,DGet H2 a y o/\Q (o.getD .non) H2):AcF ta tb σ H Q:=q
theorem Ahy (q:ta σ H fun x H1=>∃ a,x = .ref a/\IsD H1 a/\tb σ H1 fun y H2=>tc σ H2 fun z H3=>∃ o,DGet H3 a y o/\Q (o.getD z) H3):Xv ta tb tc σ H Q:=q
theorem AjQ (q:tc σ H fun v H1=>ta σ H1 fun x H2=>tb σ H2 fun y H3=>∃ a H4,x = .ref a/\DPut H3 a y v H4/\D.nx σ H4):AbF ta tb tc D σ H:=q
theorem Aj6 {f:Str} (q:tb σ H fun y H1=>ta σ H1 fun x H2=>∃ a C dx fs,x = .ref a/\H2 a = some (.ins C dx fs)/\Cls K C/\NoAttr K C f/\fs.length < 1000/\D.nx σ (upd H2 a (.ins C dx (Bu f y fs)))):AhT K ta tb f D σ H:=q
theorem AlA {T:String} {r:V->List V->Hp->VK->Prop} {t:TA} (q:ta σ H fun x H1=>tyV K T x H1/\t σ H1 fun xs H2=>r x xs H2 Q):tBM K T r ta t σ H Q:=q
theorem AiB (q:∀ p,H p = none->Q (.ref p) (upd H p (.dK []))):Zz σ H Q:=q
theorem Ajy (q:∀ p,H p = none->Q (.ref p) (upd H p (.dT []))):AcN σ H Q:=q
theorem Lz {i:Nat} {a:Addr} {xs:List V} {g:TG} (hv:σ[i]? = some (some (.ref a))) (hS:SqL K H a xs) (Pv:Nat->St->Hp->Prop) (h0:Pv 0 σ H) (hl:∀ i σ H,i <= xs.length->Pv i σ H->SqL K H a xs)
  (hs:∀ i x σ H,xs[i]? = some x->Pv i σ H->g x σ H fun σ2 H2=>t { D with nx:=Pv (i + 1),ct:=Pv (i + 1),bk:=D.nx } σ2 H2) (hd:∀ σ H,Pv xs.length σ H->D.nx σ H):Qf (Tj K (Ji i)) g t D σ H :=
 ⟨_,hv,a,rfl,⟨_,hS⟩,Uk Pv h0 hl hs hd⟩
theorem Afy {ta:TA} {R:It->Hp->Prop} (q:ta σ H fun vs H1=>∃ j:Int,vs = [.int j]/\-(2 ^ 62) <= j/\j < 2 ^ 62/\R (Itr 0 j.toNat) H1):Ve ta σ H R:=q
theorem Ae5 {R:It->Hp->Prop} (q:ta σ H fun x H1=>∃ a,x = .ref a/\(∃ xs,SqL K H1 a xs)/\R (Itl K a) H1):Tj K ta σ H R:=q
theorem Akc {i:Nat} {a:Addr} {kvs:List (Key × V)} {g:TG} (hv:σ[i]? = some (some (.ref a))) (hS:H a = some (.dK kvs)) (Pv:Nat->St->Hp->Prop) (h0:Pv 0 σ H)
  (hl:∀ i σ H,i <= kvs.length->Pv i σ H->H a = some (.dK kvs))
  (hs:∀ o i kv σ H,kvs[i]? = some kv->Pv i σ H->g (kV kv.1) σ (upd H a (.frz o (.dK kvs))) fun σ2 H2=>t (Ends.mk (fun σ H=>H a = some (.frz o (.dK kvs))/\Pv (i + 1) σ (upd H a (.dK kvs))) (Qj a (.dK kvs) D).rt (Qj a (.dK kvs) D).nx (fun σ H=>H a = some (.frz o (.dK kvs))/\Pv (i + 1) σ (upd H a (.dK kvs)))) σ2 H2)
  (hd:∀ σ H,Pv kvs.length σ H->D.nx σ H):AeX (Qf (iDk (Ji i)) g t) D σ H:=by
 refine ⟨a,.dK kvs,trivial,hS,fun o=>⟨_,hv,a,o,kvs,rfl,Bl,Acp (fun i σ H=>H a = some (.frz o (.dK kvs))/\Pv i σ (upd H a (.dK kvs))) ⟨Bl,?_⟩ (fun i σ H _ p=>p.1) (fun i kv σ H e p=>?_) fun σ H p=>⟨o,p.1,hd σ _ p.2⟩⟩⟩
 ·have e:upd (upd H a (.frz o (.dK kvs))) a (.dK kvs) = H:=by
   rw [Gh]; funext b; unfold upd; split
   ·rename_i h; rw [h,hS]
   ·rfl
  rw [e]; exact h0
 ·have e2:upd (upd H a (.dK kvs)) a (.frz o (.dK kvs)) = H:=by
   rw [Gh]; funext b; unfold upd; split
   ·rename_i h; rw [h,p.1]
   ·rfl
  have q:=hs o i kv σ _ e p.2
  rw [e2] at q
  exact q
theorem Ajr {i:Nat} {a:Addr} {kvs:List (Key × V)} {g:TG} (hv:σ[i]? = some (some (.ref a))) (hS:H a = some (.dK kvs)) (Pv:Nat->St->Hp->Prop) (h0:Pv 0 σ H)
  (hs:∀ o i kv p σ H,kvs[i]? = some kv->H p = none->p ≠ a->Pv i σ H->g (.ref p) σ (upd (upd H a (.frz o (.dK kvs))) p (.tup [kV kv.1,kv.2])) fun σ2 H2=>t (Ends.mk (fun σ H=>H a = some (.frz o (.dK kvs))/\Pv (i + 1) σ (upd H a (.dK kvs))) (Qj a (.dK kvs) D).rt (Qj a (.dK kvs) D).nx (fun σ H=>H a = some (.frz o (.dK kvs))/\Pv (i + 1) σ (upd H a (.dK kvs)))) σ2 H2)
  (hd:∀ σ H,Pv kvs.length σ H->D.nx σ H):AeX (Qf (iDi (Ji i)) g t) D σ H:=by
 refine ⟨a,.dK kvs,trivial,hS,fun o=>⟨_,hv,a,o,kvs,rfl,Bl,AbV (fun i σ H=>H a = some (.frz o (.dK kvs))/\Pv i σ (upd H a (.dK kvs))) ⟨Bl,?_⟩ (fun i σ H _ p=>p.1) (fun i kv p σ H e hp w=>?_) fun σ H p=>⟨o,p.1,hd σ _ p.2⟩⟩⟩
 ·have e:upd (upd H a (.frz o (.dK kvs))) a (.dK kvs) = H:=by
   rw [Gh]; funext b; unfold upd; split
   ·rename_i h; rw [h,hS]
   ·rfl
  rw [e]; exact h0
 ·have e2:upd (upd H a (.dK kvs)) a (.frz o (.dK kvs)) = H:=by
   rw [Gh]; funext b; unfold upd; split
   ·rename_i h; rw [h,w.1]
   ·rfl
  have ne:p ≠ a:=fun z=>by rw [z,w.1] at hp; cases hp
  have q:=hs o i kv p σ (upd H a (.dK kvs)) e (by rw [Bg ne]; exact hp) ne w.2
  rw [e2] at q
  exact q
theorem Tz {ta:TA} {g:TG} {hi:Int} {n:Nat} (hargs:∀ R:List V->Hp->Prop,R [.int hi] H->ta σ H R) (hb:-(2 ^ 62) <= hi/\hi < 2 ^ 62) (hn:hi.toNat = n) (Pv:Nat->St->Hp->Prop) (h0:Pv 0 σ H)
  (hs:∀ i σ H,i < n->Pv i σ H->g (.int (0 + i)) σ H fun σ2 H2=>t { D with nx:=Pv (i + 1),ct:=Pv (i + 1),bk:=D.nx } σ2 H2) (hd:∀ σ H,Pv n σ H->D.nx σ H):Qf (Ve ta) g t D σ H :=
 hargs _ ⟨hi,rfl,hb.1,hb.2,by rw [hn]; exact Ws Pv h0 hs hd⟩
end
end L2
set_option Elab.async false
set_option linter.all false
set_option maxRecDepth 100000
set_option maxHeartbeats 4000000
namespace L2
open PySem PySem.Spec PyProof.Rows
def Dp (fn:List Str) (env:Env):List (Str × Addr):=fn.map fun x=>(x,(env.cells.lookup x).getD 0)
theorem Uf {env:Env}:∀ {fn:List Str} {x:Str} {c:Addr},(Dp fn env).lookup x = some c->x ∈ fn/\c = (env.cells.lookup x).getD 0
 | [],_,_,h=>by cases h
 | y :: r,x,c,h=>by
  unfold Dp at h
  rw [List.map_cons,List.lookup_cons] at h
  cases e:x == y with
  | true =>
   rw [e] at h
   have:x = y:=eq_of_beq e
   subst this
   cases h
   exact ⟨List.mem_cons_self,rfl⟩
  | false =>
   rw [e] at h
   obtain ⟨h1,h2⟩:=Uf (fn:=r) (x:=x) (c:=c) h
   exact ⟨List.mem_cons_of_mem _ h1,h2⟩
theorem Ur {env:Env}:∀ {fn:List Str} {x:Str},x ∈ fn->(Dp fn env).lookup x = some ((env.cells.lookup x).getD 0)
 | [],_,h=>by cases h
 | y :: r,x,h=>by
  unfold Dp
  rw [List.map_cons,List.lookup_cons]
  cases e:x == y with
  | true =>
   have:x = y:=eq_of_beq e
   subst this
   rfl
  | false =>
   rcases List.mem_cons.mp h with z | z
   ·subst z; rw [beq_self_eq_true] at e; cases e
   ·exact Ur z
def Dj (X:Cx) (scope:Scope) (N' fn:List Str) (C:Addr) (fp:List Addr) (s:Shared) (H:Hp):Cx :=
 { X with N:=N',s₀:=s,H₀:=H,env:=compEnvC scope (Dp fn X.env) C X.env,outer:=X.stack,stack:=X.stack,ex:=fp,fn:=fun _=>false,pn:=[],xe:=fun _ _=>False }
def compσ (k:Nat) (fr:List Nat) (σ:St):St:=List.replicate k none ++ fr.map fun i=>(σ[i]?).join
def Jm (wi:TI) (g:TG) (tc:TT) (te:TE) (k:Nat) (fr:List Nat):TE:=fun σ H Q=>wi σ H fun J H1=>∀ D,H1 D = none ->
 ∃ W:Nat->Nat->Hp->Prop,(∃ m,W 0 m (upd H1 D (.lst [])))/\∀ i m H,W i m H->(J.stop i H/\Q (.ref D) H)\/(J.go i H/\∀ x H',J.yld i H x H'->g x (compσ k fr σ) H' fun σ2 H2 =>
  σ2.drop k = (compσ k fr σ).drop k/\tc σ2 H2 fun b H3=>if b = true then te σ2 H3 (fun y H4=>∃ ys,H4 D = some (.lst ys)/\ys.length < sizeLine/\∃ m',m' < m/\W (i + 1) m' (upd H4 D (.lst (ys ++ [y])))) else ∃ m',m' < m/\W (i + 1) m' H3)
def Qe (X:Cx) (ifs:List Expr) (t:TT):Prop :=
 ∀ (pins:List (Addr × Obj)) (s:Shared) (σ:St) (H:Hp) (Q:Bool->Hp->Prop),Inv X pins σ H s->t σ H Q ->
  wpAny (model X.prog X.w) X.A (forIn ifs true fun c r=>if r = true then do let ok <- isTrue c X.env (eval c X.env); pure (ForInStep.yield ok) else pure (ForInStep.yield r)) (TP X pins σ Q) X.xe s
def Abm:TT:=fun _ H Q=>Q true H
theorem Gp {X:Cx}:Qe X [] Abm:=fun _ _ _ H _ I h=>wpAny_tests_nil ⟨H,I,h⟩
theorem Jv {X:Cx} {c:Expr} {t:TT} (h:PT X c t):Qe X [c] t:=fun pins s σ H Q I q=>wpAny_tests_one (h pins s σ H Q I q)
theorem Ac6 {prog:Program} {w:World} {A:Around} {R:Result->Shared->Prop} {s:Shared} {elt target iter:Expr} {ifs:List Expr} {scope:Scope} {pos:Pos} {it acc:Value} {env:Env} (I:Nat->Shared->Prop)
  (turn:∀ n s,I n s->wpAny (model prog w) A (pyNext it) (fun r s₁=>match r with
   | none=>R (.ok .next) s₁
   | some v=>wpAny (model prog w) A (letOwnedTupleGo target it v) (fun _ s₁'=>wpAny (model prog w) A (assign target env v) (fun _ s₂ =>
     wpAny (model prog w) A (forIn ifs true fun c r=>if r = true then do let ok <- isTrue c env (eval c env); pure (ForInStep.yield ok) else pure (ForInStep.yield r)) (fun ok s₃ =>
      if ok = true then wpAny (model prog w) A (eval elt env) (fun x s₄ =>
       wpAny (model prog w) A (call (.builtin "list.append") [acc,x]) (fun _ s₅=>∃ m,m < n/\I m s₅) (fun _ _=>False) s₄) (fun _ _=>False) s₃
      else ∃ m,m < n/\I m s₃) (fun _ _=>False) s₂) (fun _ _=>False) s₁') (fun _ _=>False) s₁) (fun _ _=>False) s)
  (n:Nat) (h:I n s) :
  codeAny (model prog w) A (.compLoop (.ListComp elt [⟨target,iter,ifs,0⟩] scope pos) 0 it acc env) R s:=by
 refine codeAny_loop rfl I (fun n s hI=>?_) n h
 show wpAny _ A ((compTurn (.ListComp elt [⟨target,iter,ifs,0⟩] scope pos) 0 it acc env).onRaise (fun x=>do noteFrame x env; theTreesLotGoes x)) _ _ s
 refine wpAny_noted ?_
 rw [compTurn_list]
 refine wpAny_bind (wpAny_standAt (wpAny_bind (wpAny_mono (turn n s hI) (fun r s₁ h₁=>?_) fun _ _ h'=>h'.elim)))
 cases r with
 | none=>exact wpAny_pure h₁
 | some v =>
  refine wpAny_bind (wpAny_mono h₁ (fun _ s₁' h₁'=>?_) fun _ _ h'=>h'.elim)
  refine wpAny_bind (wpAny_mono h₁' (fun _ s₂ h₂=>wpAny_bind (wpAny_mono h₂ (fun ok s₃ h₃=>?_) fun _ _ h'=>h'.elim)) fun _ _ h'=>h'.elim)
  cases ok with
  | false=>exact wpAny_pure ⟨rfl,h₃⟩
  | true =>
   exact wpAny_bind (wpAny_bind (wpAny_mono h₃ (fun x s₄ h₄=>wpAny_bind (wpAny_mono h₄ (fun _ s₅ h₅=>wpAny_pure (wpAny_pure ⟨rfl,h₅⟩)) fun _ _ h'=>h'.elim)) fun _ _ h'=>h'.elim))
theorem compσ_len (k:Nat) (fr:List Nat) (σ:St):(compσ k fr σ).length = k + fr.length:=by
 unfold compσ; rw [List.length_append,List.length_replicate,List.length_map]
theorem compσ_weak {k:Nat} {fr:List Nat} {σ σ2:St} (hd:σ2.drop k = (compσ k fr σ).drop k):∀ (i:Nat) v,(compσ k fr σ)[i]? = some (some v)->σ2[i]? = some (some v):=by
 intro i v h
 by_cases hi:i < k
 ·unfold compσ at h
  rw [List.getElem?_append_left (by rw [List.length_replicate]; exact hi),List.getElem?_replicate] at h
  rw [if_pos hi] at h; cases h
 ·have e:∀ l:St,l[i]? = (l.drop k)[i - k]?:=fun l=>by rw [List.getElem?_drop]; congr 1; omega
  rw [e] at h ⊢
  rw [hd]; exact h
theorem Inv.nsch {X:Cx} {pins:List (Addr × Obj)} {σ:St} {H:Hp} {s:Shared} {C:Addr} {h':Heap} (I:Inv X pins σ H s) (sb:Heap.SameBut C s.heap h') (hC:H C = none) (h1:X.s₀.heap.objs.size <= C) (h2:C ≠ X.env.locals)
  (h3:∀ x c,X.env.cells.lookup x = some c->c ≠ C) (h4:∀ p ∈ X.pn ++ pins,p.1 ≠ C):Inv X pins σ H { s with heap:=h' }:=by
 have nc:∀ b:Addr,b ∉ [C]->b ≠ C:=fun b z w=>z (by rw [w]; exact List.mem_cons_self)
 refine Inv.call (s:=s) I (h':=h') (g':=s.gens) (d':=s.drawn) (t':=s.toks) (ch:=[C]) ⟨fun b o e n _ hx=>(sb.2 b (nc b hx)).trans e,fun b o e n _ hx=>⟨o.slots,(sb.2 b (nc b hx)).trans e⟩,fun _ _ _ n _=>n,fun b o e hx=>⟨o,(sb.2 b (nc b hx)).trans e⟩,fun _ _ e=>e,fun _ _ _ e=>e,fun b ps e=>⟨#[],by rw [Array.append_empty]; exact e⟩⟩ (fun b u e=>?_) I.bare (fun b hb=>?_)
 ·refine (I.hok b u e).stay (fun c v hc' q'=>(sb.2 c ?_).trans q') (fun _ q'=>q') fun _ _ q'=>q'
  rcases hc' with w | w
  ·rw [w]; exact Bm e hC
  ·exact Bm w hC
 ·rw [List.mem_singleton.mp hb]
  exact ⟨.inr h1,h2,h3,h4⟩
theorem Xa {X:Cx} {elt tg iter:Expr} {ifs:List Expr} {scope:Scope} {pos:Pos} {wi:TI} {g:TG} {tc:TT} {te:TE} {k:Nat} {fr:List Nat} {N' fn:List Str} (hc:X.calm = true)
  (hi:PI X tg iter wi) (hN:N'.length = k + fr.length)
  (hfr:∀ j y,N'[k + j]? = some y->∀ i,fr[j]? = some i->X.N[i]? = some y/\X.env.kindOf y = some .cell/\(compEnvC scope (Dp fn X.env) 0 X.env).kindOf y = some .cell/\y ∈ fn)
  (hfn:∀ y ∈ fn,X.env.kindOf y = some .cell)
  (hkd:∀ y,((compEnvC scope (Dp fn X.env) 0 X.env).kindOf y = some .cell\/(compEnvC scope (Dp fn X.env) 0 X.env).kindOf y = some .free)->y ∈ fn)
  (hg:∀ C fp s H,PG (Dj X scope N' fn C fp s H) tg g) (ht:∀ C fp s H,Qe (Dj X scope N' fn C fp s H) ifs tc) (he:∀ C fp s H,PE (Dj X scope N' fn C fp s H) elt te)
  (hclos:closureFor scope X.env = pure (Dp fn X.env)) (hcell:∀ y ∈ scope.names,y.2 ≠ .cell) (hkind:scope.kind = .function) (hnames:∀ y ∈ scope.names,y.2 = .local->scope.names.lookup y.1 = some .local)
  (hs:∀ x,foldedSetIterable iter X.env x = pure x:=by intro _; rfl) {pins:List (Addr × Obj)} {s:Shared} {σ:St} {H:Hp} {Q:VK} {use:Option (Value->Sem Unit)} {Qc:Value->Shared->Prop} {cpos:Pos} (I:Inv X pins σ H s) (h:Jm wi g tc te k fr σ H Q)
  (fin:∀ (H3:Hp) (s4:Shared) (D C:Addr) (m:Str->Option Value),s4.heap.Ns C m->Inv X pins σ H3 s4->H3 C = none->X.s₀.heap.objs.size <= C->C ≠ X.env.locals->(∀ x c,X.env.cells.lookup x = some c->c ≠ C)->(∀ p ∈ X.pn ++ pins,p.1 ≠ C)->Q (.ref D) H3 ->
   compPost (model X.prog X.w) X.A X.xe use Qc (.ref D) C (.ok .next) s4) :
  wpAny (model X.prog X.w) X.A (comprehension (.ListComp elt [⟨tg,iter,ifs,0⟩] scope pos) scope X.env cpos (newList []) false (eval iter X.env) use) Qc X.xe s:=by
 refine wpAny_comprehension_free (use:=use) rfl hs hclos hkind hnames (thn (hi pins s σ H _ I h) fun v s1 h1=>thn h1 fun itv s2 h2=>?_)
 obtain ⟨it,fp,tn,J,H2,e,I2,T,st2,f2,q⟩:=h2
 subst e
 have hfr2:H2 s2.heap.objs.size = none:=I2.hok.fresh (Nat.le_refl _)
 obtain ⟨W,⟨m0,w0⟩,turn⟩:=q s2.heap.objs.size hfr2
 refine wpAny_newObj_type (wpAny_newFunctionEnv hcell (by intro y hy; simp at hy) (fun h₁ hns₁ hsb₁=>?_) hkind)
 dsimp only at hns₁ hsb₁ ⊢
 generalize hHH:s2.heap.push { cls:=.type "list",dict:=none,data:=.seq ([]:List Value).toArray } = HH at hns₁ hsb₁ ⊢
 have hC:HH.objs.size = s2.heap.objs.size + 1:=by rw [<- hHH,Heap.size_push]
 have hDC:s2.heap.objs.size ≠ HH.objs.size:=by rw [hC]; exact Nat.ne_of_lt (Nat.lt_succ_self _)
 have hCle:s2.heap.objs.size <= HH.objs.size:=by rw [hC]; exact Nat.le_succ _
 have below:∀ b,b < s2.heap.objs.size->b ≠ HH.objs.size:=fun b hb=>by rw [hC]; exact Nat.ne_of_lt (Nat.lt_succ_of_lt hb)
 have old:∀ b o,s2.heap.get? b = some o->h₁.get? b = some o:=fun b o e=>hsb₁.extBut b o (below b (Heap.lt_size e)) (Heap.get?_push_of_some _ (hHH ▸ Heap.get?_push_of_some _ e))
 have hacc:h₁.get? s2.heap.objs.size = some { cls:=.type "list",dict:=none,data:=.seq ([]:List Value).toArray }:=hsb₁.extBut _ _ hDC (Heap.get?_push_of_some _ (hHH ▸ Heap.get?_push_size _ rfl))
 have hst₁:tn 0 h₁:=T.keep _ _ _ st2 fun b _ o e=>old b o e
 -- the cells from around
 have hcl:∀ x c,(Dp fn X.env).lookup x = some c->X.env.cells.lookup x = some c:=fun x c e=>by
  obtain ⟨h1,h2⟩:=Uf e
  obtain ⟨c',e'⟩:=I2.ok.has x (.inl (hfn x h1))
  rw [h2,e']; rfl
 have kd0:∀ C y,(compEnvC scope (Dp fn X.env) C X.env).kindOf y = (compEnvC scope (Dp fn X.env) 0 X.env).kindOf y:=fun _ _=>rfl
 have fpLt:∀ b ∈ fp,b < s2.heap.objs.size:=fun b hb=>by obtain ⟨o,e,_⟩:=T.obj _ _ st2 b hb; exact Heap.lt_size e
 have cLt:∀ x c,(Dp fn X.env).lookup x = some c->c < s2.heap.objs.size:=fun x c e=>by obtain ⟨v,z⟩:=I2.cell x c (hcl x c e); exact z.lt
 -- the block's context
 generalize hX:Dj X scope N' fn HH.objs.size fp s2 H2 = X'
 have ok:X'.Ok:=by
  subst hX
  exact {
   mod:=I2.ok.mod
   kind:=hkind
   glob:=I2.ok.glob
   blt:=I2.ok.blt
   above:=hCle
   inj:=fun x y c h1 h2=>I2.ok.inj x y c (hcl x c h1) (hcl y c h2)
   has:=fun x hx=>⟨_,Ur (hkd x hx)⟩
   cab:=fun x c z=>by cases z
   hd:=fun _=>I2.ok.hd hc
   frames:=I2.ok.frames
   stk:=.inl rfl
   exf:=fun b hb=>⟨Nat.ne_of_lt (Nat.lt_of_lt_of_le (fpLt b hb) hCle),fun x c e z=>by
    obtain ⟨_,_,_,_,f4,_⟩:=f2 b hb
    exact f4 x c (hcl x c e) z⟩
   bs:=I2.bs
   bsz:=Nat.le_trans I2.ok.bsz I2.sz
   noex:=fun b o e z=>by
    obtain ⟨_,_,_,f3,_,_⟩:=f2 b z
    rcases f3 with w | w
    ·exact I2.ok.noex b o e w
    ·have h1:=(I2.ok.bs b o e).1
     exact absurd (Nat.lt_of_lt_of_le (Heap.lt_size h1) w) (Nat.lt_irrefl _)
   exfs:=fun b z hb=>by
    obtain ⟨_,f1,f2',_⟩:=f2 b z
    rcases List.mem_cons.mp (I2.stkSub b hb) with w | w
    ·exact f1 w
    ·exact f2' w
   funs:=I2.stack
   frf:=I2.stkFree }
 have un1:Un X'.fs X'.ex H2 (upd H2 s2.heap.objs.size (.lst [])) s2.heap h₁:=Un.laid old (Nat.le_refl _) hfr2
 have hok1:HOk X.prog X.w (upd H2 s2.heap.objs.size (.lst [])) h₁:=I2.hok.laid old (Nat.le_refl _) ⟨Nat.zero_le _,[],0,.nil,hacc⟩
 have nC:H2 HH.objs.size = none:=I2.hok.fresh hCle
 have I0:∀ tk,Inv X' [] (compσ k fr σ) (upd H2 s2.heap.objs.size (.lst [])) { s2 with heap:=h₁,toks:=tk }:=fun tk=>by
  have ex:X'.env = compEnvC scope (Dp fn X.env) HH.objs.size X.env:=by subst hX; rfl
  refine ⟨ok,by subst hX; rfl,I2.bare,by subst hX; exact un1,?_,?_,?_,?_,?_,by subst hX; exact hok1,?_⟩
  ·obtain ⟨m,hn,hl⟩:=I2.loc
   refine ⟨_,by rw [ex]; exact hns₁,fun i x v e1 e2 e3=>?_⟩
   have e1':N'[i]? = some x:=by subst hX; exact e1
   have hik:k <= i:=by
    rcases Nat.lt_or_ge i k with z | z
    ·unfold compσ at e2
     rw [List.getElem?_append_left (by rw [List.length_replicate]; exact z),List.getElem?_replicate,if_pos z] at e2
     cases e2
    ·exact z
   obtain ⟨j,rfl⟩:=Nat.exists_eq_add_of_le hik
   have e2':(fr.map fun i=>(σ[i]?).join)[j]? = some (some v):=by
    unfold compσ at e2
    rw [List.getElem?_append_right (by rw [List.length_replicate]; omega),List.length_replicate] at e2
    simpa using e2
   rw [List.getElem?_map] at e2'
   cases ef:fr[j]? with
   | none=>rw [ef] at e2'; cases e2'
   | some i0 =>
    rw [ef] at e2'
    have e4:(σ[i0]?).join = some v:=Option.some.inj e2'
    obtain ⟨a1,a2,a3,a4⟩:=hfr j x e1' i0 ef
    have e5:σ[i0]? = some (some v):=by
     cases z:σ[i0]? with
     | none=>rw [z] at e4; cases e4
     | some o=>rw [z] at e4; have:o = some v:=e4; rw [this]
    obtain ⟨u,ru,l⟩:=hl i0 x v a1 e5 (.inr (.inl a2))
    refine ⟨u,ru,.inr ⟨.inl (by rw [ex,kd0]; exact a3),?_⟩⟩
    rcases l with ⟨lk,_⟩ | ⟨_,c,lc,lcell⟩
    ·rw [a2] at lk; cases lk
    ·refine ⟨c,by rw [ex]; show (Dp fn X.env).lookup x = some c; rw [Ur a4,lc]; rfl,?_⟩
     obtain ⟨o,ho,hd⟩:=lcell
     exact ⟨o,old c o ho,hd⟩
  ·intro x c e
   rw [ex] at e
   obtain ⟨v,o,ho,hd⟩:=I2.cell x c (hcl x c e)
   exact ⟨v,o,old c o ho,hd⟩
  ·rw [ex]
   show (upd H2 s2.heap.objs.size (.lst [])) HH.objs.size = none
   rw [Bg hDC.symm]; exact nC
  ·intro x c e
   rw [ex] at e
   rw [Bg (Nat.ne_of_lt (cLt x c e))]
   exact I2.freeC x c (hcl x c e)
  ·intro p hp
   subst hX
   exact absurd (show p ∈ ([]:List (Addr × Obj)) from hp) (by simp)
  ·rw [compσ_len]; subst hX; exact hN.symm
 have fpOk:∀ {H':Hp} {pins':List (Addr × Obj)},(∀ b ∈ fp,H' b = none)->pins' = []->∀ b ∈ fp,Su X' pins' H' b:=fun {H' pins'} hn e b hb=>by
  subst e
  obtain ⟨_,f1,f2',f3,f4,f5⟩:=f2 b hb
  subst hX
  refine ⟨hn b hb,Nat.ne_of_lt (Nat.lt_of_lt_of_le (fpLt b hb) hCle),fun z=>?_,.inl hb,fun x c e=>f4 x c (hcl x c e),fun p hp=>absurd (show p ∈ ([]:List (Addr × Obj)) from hp) (by simp)⟩
  rcases List.mem_cons.mp (I2.stkSub b z) with w | w
  ·exact f1 w
  ·exact f2' w
 have eqP:X'.prog = X.prog/\X'.w = X.w/\X'.K = X.K/\X'.calm = true/\X'.A = X.A/\X'.env = compEnvC scope (Dp fn X.env) HH.objs.size X.env/\X'.N = N':=by subst hX; exact ⟨rfl,rfl,rfl,hc,rfl,rfl,rfl⟩
 obtain ⟨eP,eW,eK,eC,eA,eE,eN⟩:=eqP
 have hg':PG X' tg g:=by subst hX; exact hg _ _ _ _
 have ht':Qe X' ifs tc:=by subst hX; exact ht _ _ _ _
 have he':PE X' elt te:=by subst hX; exact he _ _ _ _
 have eX:X'.xe = fun _ _=>False:=by subst hX; rfl
 have loop:∀ s₃:Shared,s₃ = { s2 with heap:=h₁,toks:=s2.toks + ([]:List (Str × Value)).length } ->
   codeAny (model X.prog X.w) X.A (.compLoop (.ListComp elt [⟨tg,iter,ifs,0⟩] scope pos) 0 (.ref it) (.ref s2.heap.objs.size) (compEnvC scope (Dp fn X.env) HH.objs.size X.env))
    (compPost (model X.prog X.w) X.A X.xe use Qc (.ref s2.heap.objs.size) HH.objs.size) s₃:=by
  rintro s₃ rfl
  refine Ac6 (fun n s'=>∃ i H',Inv X' [] (compσ k fr σ) H' s'/\tn i s'.heap/\(∀ b ∈ fp,H' b = none)/\W i n H') ?_ m0 ⟨0,_,I0 _,hst₁,fun b hb=>by rw [Bg (Nat.ne_of_lt (fpLt b hb))]; exact (f2 b hb).1,w0⟩
  rintro n s3 ⟨i,H3,I3,st3,fr3,w3⟩
  rcases turn i n H3 w3 with ⟨stop,qn⟩ | ⟨go,step⟩
  ·have d:=T.done X' eP eW eK eC i [] s3 (compσ k fr σ) H3 (fun _ _=>False) I3 (fpOk fr3 rfl) st3 stop
   rw [eA] at d
   refine thn d fun r s4 ⟨hr,I4⟩=>?_
   subst hr
   obtain ⟨m,hn,_⟩:=I4.loc
   rw [eE] at hn
   have u4:Un (frs X.stack) fp H2 H3 s2.heap s4.heap:=by have:=I4.base; subst hX; exact this
   have nC3:H3 HH.objs.size = none:=by have:=I4.free; rw [eE] at this; exact this
   have hok5:HOk X.prog X.w H3 s4.heap:=fun b u e=>by
    have z:=I4.hok b u e
    rw [eP,eW] at z
    exact z
   have os4:s4.os = s2.os:=by have:=I4.os; subst hX; exact this
   obtain ⟨hh,gg,dd,tt,oo⟩:=s4
   obtain rfl:oo = s2.os:=os4
   have Ix:Inv X pins σ H3 ⟨hh,gg,dd,tt,s2.os⟩:=Inv.call (s:=s2) I2 (h':=hh) (g':=gg) (d':=dd) (t':=tt) (ch:=fp) u4 hok5 I4.bare fun b hb=>by
    obtain ⟨_,f1,_,f3,f4,f5⟩:=f2 b hb
    exact ⟨f3,f1,f4,f5⟩
   refine fin H3 _ _ _ m hn Ix nC3 (Nat.le_trans I2.sz hCle) ?_ (fun x c e=>?_) (fun p hp=>?_) qn
   ·obtain ⟨_,⟨o,_,_,ho,_⟩,_⟩:=I2.loc
    exact (below _ (Heap.lt_size ho)).symm
   ·obtain ⟨v,z⟩:=I2.cell x c e
    exact below _ z.lt
   ·exact below _ (Heap.lt_size (I2.pin p hp).1)
  ·have d:=T.item X' eP eW eK eC i [] s3 (compσ k fr σ) H3 (fun _ _=>False) I3 (fpOk fr3 rfl) st3 go
   rw [eA] at d
   refine thn d fun r s4 ⟨u,hr,h4⟩=>?_
   subst hr
   refine thn h4 fun _ s5 ⟨x,H5,I5,r5,y5,st5,fr5⟩=>?_
   have I5':=I5.pinned (fpOk fr5 rfl) (T.obj _ _ st5)
   have a1:=hg' _ s5 (compσ k fr σ) H5 x u _ I5' r5 (step x H5 y5)
   rw [eP,eW,eA,eE,eX] at a1
   refine thn a1 fun _ s6 ⟨σ6,H6,I6,q6a,q6⟩=>?_
   have a2:=ht' _ s6 σ6 H6 _ I6 q6
   rw [eP,eW,eA,eE,eX] at a2
   refine thn a2 fun b s7 ⟨H7,I7,q7⟩=>?_
   have again:∀ {H8:Hp} {s8:Shared},Inv X' ([] ++ Te fp s5.heap) σ6 H8 s8->(∃ m',m' < n/\W (i + 1) m' H8)->∃ m,m < n/\∃ i H',Inv X' [] (compσ k fr σ) H' s8/\tn i s8.heap/\(∀ b ∈ fp,H' b = none)/\W i m H':=fun {H8 s8} I8 ⟨m',hm,w8⟩=>by
    refine ⟨m',hm,i + 1,H8,I8.unpinned.weak ?_ (compσ_weak q6a),T.keep _ _ _ st5 fun b hb o e=>(I8.pin (b,o) (List.mem_append_right _ (List.mem_append_right _ (Ny hb e)))).1,fun b hb=>?_,w8⟩
    ·rw [compσ_len,I8.len,eN,hN]
    ·obtain ⟨o,e,_⟩:=T.obj _ _ st5 b hb
     exact (I8.pin (b,o) (List.mem_append_right _ (List.mem_append_right _ (Ny hb e)))).2.1
   cases b with
   | false =>
    rw [if_neg Bool.false_ne_true] at q7 ⊢
    exact again I7 q7
   | true =>
    rw [if_pos rfl] at q7 ⊢
    have a3:=he' _ s7 σ6 H7 _ I7 q7
    rw [eP,eW,eA,eE,eX] at a3
    refine thn a3 fun yv s8 ⟨y,H8,I8,r8,ys,hD,hz,q8⟩=>?_
    have a4:=Wo (X:=X') _ s8 σ6 H8 (.ref s2.heap.objs.size) [y] (.ref s2.heap.objs.size) [yv] (fun _ H9=>∃ m',m' < n/\W (i + 1) m' H9) I8 rfl (.cons r8 .nil) ⟨_,ys,y,rfl,rfl,hD,hz,q8⟩
    rw [eP,eW,eA,eX] at a4
    exact thn a4 fun _ s9 ⟨_,H9,I9,_,q9⟩=>again I9 q9
 exact codeAny_compStart_list (loop _ rfl) (T.self _ 0 _ _ _ hst₁ (loop _ rfl))
theorem AaY {X:Cx} {elt tg iter:Expr} {ifs:List Expr} {scope:Scope} {pos:Pos} {wi:TI} {g:TG} {tc:TT} {te:TE} {k:Nat} {fr:List Nat} {N' fn:List Str} (hc:X.calm = true)
  (hi:PI X tg iter wi) (hN:N'.length = k + fr.length)
  (hfr:∀ j y,N'[k + j]? = some y->∀ i,fr[j]? = some i->X.N[i]? = some y/\X.env.kindOf y = some .cell/\(compEnvC scope (Dp fn X.env) 0 X.env).kindOf y = some .cell/\y ∈ fn)
  (hfn:∀ y ∈ fn,X.env.kindOf y = some .cell)
  (hkd:∀ y,((compEnvC scope (Dp fn X.env) 0 X.env).kindOf y = some .cell\/(compEnvC scope (Dp fn X.env) 0 X.env).kindOf y = some .free)->y ∈ fn)
  (hg:∀ C fp s H,PG (Dj X scope N' fn C fp s H) tg g) (ht:∀ C fp s H,Qe (Dj X scope N' fn C fp s H) ifs tc) (he:∀ C fp s H,PE (Dj X scope N' fn C fp s H) elt te)
  (hclos:closureFor scope X.env = pure (Dp fn X.env)) (hcell:∀ y ∈ scope.names,y.2 ≠ .cell) (hkind:scope.kind = .function) (hnames:∀ y ∈ scope.names,y.2 = .local->scope.names.lookup y.1 = some .local)
  (hs:∀ x,foldedSetIterable iter X.env x = pure x:=by intro _; rfl):PE X (.ListComp elt [⟨tg,iter,ifs,0⟩] scope pos) (Jm wi g tc te k fr):=by
 intro pins s σ H Q I h
 rw [eval_ListComp]
 refine Xa hc hi hN hfr hfn hkd hg ht he hclos hcell hkind hnames hs I h fun H3 s4 D C m hn Ix hC h1 h2 h3 h4 q=>?_
 exact ⟨m,hn,fun h' sb=>⟨.ref D,H3,Inv.nsch Ix sb hC h1 h2 h3 h4,rfl,q⟩⟩
theorem AaF {X:Cx} {elt tg iter:Expr} {ifs:List Expr} {scope:Scope} {pos px spos:Pos} {i:Nat} {x:Str} {wi:TI} {g:TG} {tc:TT} {te:TE} {k:Nat} {fr:List Nat} {N' fn:List Str} (hc:X.calm = true)
  (hi:PI X tg iter wi) (hN:N'.length = k + fr.length)
  (hfr:∀ j y,N'[k + j]? = some y->∀ i,fr[j]? = some i->X.N[i]? = some y/\X.env.kindOf y = some .cell/\(compEnvC scope (Dp fn X.env) 0 X.env).kindOf y = some .cell/\y ∈ fn)
  (hfn:∀ y ∈ fn,X.env.kindOf y = some .cell)
  (hkd:∀ y,((compEnvC scope (Dp fn X.env) 0 X.env).kindOf y = some .cell\/(compEnvC scope (Dp fn X.env) 0 X.env).kindOf y = some .free)->y ∈ fn)
  (hg:∀ C fp s H,PG (Dj X scope N' fn C fp s H) tg g) (ht:∀ C fp s H,Qe (Dj X scope N' fn C fp s H) ifs tc) (he:∀ C fp s H,PE (Dj X scope N' fn C fp s H) elt te)
  (hclos:closureFor scope X.env = pure (Dp fn X.env)) (hcell:∀ y ∈ scope.names,y.2 ≠ .cell) (hkind:scope.kind = .function) (hnames:∀ y ∈ scope.names,y.2 = .local->scope.names.lookup y.1 = some .local)
  (hs:∀ x,foldedSetIterable iter X.env x = pure x:=by intro _; rfl) (hNd:X.N.Nodup) (hix:X.N[i]? = some x) (hx:Loc X.env.scope x) (hsw:swapsWith (.ListComp elt [⟨tg,iter,ifs,0⟩] scope pos) (some (.Name x px)) spos.line X.env = pure true)
  (hf:X.fn x = true\/X.env.scope.names.lookup x = some .local:=by first | exact .inl rfl | exact .inr rfl | assumption):PS X (.Assign [.Name x px] (.ListComp elt [⟨tg,iter,ifs,0⟩] scope pos) spos) (Sh (Jm wi g tc te k fr) (Lx i)):=by
 intro pins s σ H D I h
 rw [exec_Assign_Name_used _ _ _ _ hsw]
 refine wpAny_bind (wpAny_standAt (wpAny_bind ?_))
 show wpAny _ X.A (do let _ <- comprehension (.ListComp elt [⟨tg,iter,ifs,0⟩] scope pos) scope X.env _ (newList []) false (eval iter X.env) (some (assign (.Name x px) X.env))) _ _ s
 refine wpAny_bind (wpAny_mono (Xa (use:=some (assign (.Name x px) X.env)) (Qc:=fun _ s'=>SP X pins D .next s') hc hi hN hfr hfn hkd hg ht he hclos hcell hkind hnames hs I h fun H3 s4 D' C m hn Ix hC h1 h2 h3 h4 q=>?_) (fun _ s' hq=>wpAny_pure (wpAny_pure hq)) fun _ _ e=>e)
 show wpAny _ X.A (assign (.Name x px) X.env (.ref D')) _ _ _
 refine wpAny_assign_Name (Wr Ix hNd hix hx (v:=.ref D') rfl (fun s' I' ⟨a,sb,ha⟩=>?_) hf)
 have nCa:C ≠ a:=by
  rcases ha with w | w
  ·rw [w]; exact h2
  ·exact (h3 _ _ w).symm
 exact ⟨m,hn.sameBut sb nCa,fun h' sb'=>⟨_,H3,Inv.nsch I' sb' hC h1 h2 h3 h4,q⟩⟩
theorem By {X:Cx} {scope:Scope} {N' fn:List Str} {C:Addr} {fp:List Addr} {s:Shared} {H:Hp}:(Dj X scope N' fn C fp s H).K = X.K:=rfl
theorem Qh {X:Cx} {pos:Pos} {K':PySem.W.Frag} (hK:X.K = K') {es:List Expr} {k:Nat} {t:TGs} {n:Nat} (hc:X.calm = true) (h:PGs X es t)
  (hn:(assignEach es X.env).length = n:=by rfl) (hst:(assignEach es X.env).findIdx? (·.1) = none:=by rfl):PG X (.Tuple es k pos) (Zy K' n t):=by
 subst hK
 exact Oj hc h hn hst
theorem Jk:∀ {l:List (Str × NameKind)} {y:Str} {k:NameKind},l.lookup y = some k->(y,k) ∈ l
 | [],_,_,h=>by cases h
 | (x,j) :: r,y,k,h=>by
  rw [List.lookup_cons] at h
  cases e:y == x with
  | true =>
   rw [e] at h
   cases h
   rw [eq_of_beq e]; exact List.mem_cons_self
  | false =>
   rw [e] at h
   exact List.mem_cons_of_mem _ (Jk h)
theorem Lg {X:Cx} {elt tg iter:Expr} {ifs:List Expr} {scope:Scope} {pos:Pos} {wi:TI} {g:TG} {tc:TT} {te:TE} (k:Nat) (N':List Str) (hN:N'.length = k) (hc:X.calm = true)
  (hi:PI X tg iter wi)
  (hg:∀ C fp s H,PG (Dj X scope N' [] C fp s H) tg g) (ht:∀ C fp s H,Qe (Dj X scope N' [] C fp s H) ifs tc) (he:∀ C fp s H,PE (Dj X scope N' [] C fp s H) elt te)
  (hfree:∀ y ∈ scope.names,y.2 ≠ .free) (hcell:∀ y ∈ scope.names,y.2 ≠ .cell) (hkind:scope.kind = .function) (hnames:∀ y ∈ scope.names,y.2 = .local->scope.names.lookup y.1 = some .local)
  (hs:∀ x,foldedSetIterable iter X.env x = pure x:=by intro _; rfl):PE X (.ListComp elt [⟨tg,iter,ifs,0⟩] scope pos) (Jm wi g tc te k []):=by
 refine AaY (fn:=[]) (fr:=[]) (k:=k) hc hi hN (fun j y _ i e=>by simp at e) (fun y hy=>by cases hy) (fun y h=>?_) hg ht he (PySem.closureFor_none hfree) hcell hkind hnames hs
 have e:∀ k,(compEnvC scope (Dp [] X.env) 0 X.env).kindOf y = some k->∃ p ∈ scope.names,p.2 = .free\/p.2 = k:=by
  intro k h
  have m:=Jk (show (relabel scope X.env).names.lookup y = some k from h)
  obtain ⟨p,hp,ep⟩:=List.mem_map.mp (show (y,k) ∈ scope.names.map _ from m)
  obtain ⟨n,kd⟩:=p
  refine ⟨(n,kd),hp,?_⟩
  dsimp only at ep
  split at ep
  ·rename_i c
   simp only [Bool.and_eq_true,beq_iff_eq] at c
   exact .inl c.1.1
  ·exact .inr (Prod.mk.inj ep).2
 rcases h with h | h
 ·obtain ⟨p,hp,z⟩:=e _ h
  rcases z with z | z
  ·exact (hfree p hp z).elim
  ·exact (hcell p hp z).elim
 ·obtain ⟨p,hp,z⟩:=e _ h
  rcases z with z | z
  ·exact (hfree p hp z).elim
  ·exact (hfree p hp z).elim
theorem Yw {X:Cx} {elt tg iter:Expr} {ifs:List Expr} {scope:Scope} {pos px spos:Pos} {i:Nat} {x:Str} {wi:TI} {g:TG} {tc:TT} {te:TE} (k:Nat) (N':List Str) (hN:N'.length = k) (hc:X.calm = true)
  (hi:PI X tg iter wi)
  (hg:∀ C fp s H,PG (Dj X scope N' [] C fp s H) tg g) (ht:∀ C fp s H,Qe (Dj X scope N' [] C fp s H) ifs tc) (he:∀ C fp s H,PE (Dj X scope N' [] C fp s H) elt te)
  (hfree:∀ y ∈ scope.names,y.2 ≠ .free) (hcell:∀ y ∈ scope.names,y.2 ≠ .cell) (hkind:scope.kind = .function) (hnames:∀ y ∈ scope.names,y.2 = .local->scope.names.lookup y.1 = some .local)
  (hs:∀ x,foldedSetIterable iter X.env x = pure x:=by intro _; rfl) (hNd:X.N.Nodup) (hix:X.N[i]? = some x) (hx:Loc X.env.scope x) (hsw:swapsWith (.ListComp elt [⟨tg,iter,ifs,0⟩] scope pos) (some (.Name x px)) spos.line X.env = pure true)
  (hf:X.fn x = true\/X.env.scope.names.lookup x = some .local:=by first | exact .inl rfl | exact .inr rfl | assumption):PS X (.Assign [.Name x px] (.ListComp elt [⟨tg,iter,ifs,0⟩] scope pos) spos) (Sh (Jm wi g tc te k []) (Lx i)):=by
 refine AaF (fn:=[]) (fr:=[]) (k:=k) hc hi hN (fun j y _ i e=>by simp at e) (fun y hy=>by cases hy) (fun y h=>?_) hg ht he (PySem.closureFor_none hfree) hcell hkind hnames hs hNd hix hx hsw hf
 have e:∀ k,(compEnvC scope (Dp [] X.env) 0 X.env).kindOf y = some k->∃ p ∈ scope.names,p.2 = .free\/p.2 = k:=by
  intro k h
  have m:=Jk (show (relabel scope X.env).names.lookup y = some k from h)
  obtain ⟨p,hp,ep⟩:=List.mem_map.mp (show (y,k) ∈ scope.names.map _ from m)
  obtain ⟨n,kd⟩:=p
  refine ⟨(n,kd),hp,?_⟩
  dsimp only at ep
  split at ep
  ·rename_i c
   simp only [Bool.and_eq_true,beq_iff_eq] at c
   exact .inl c.1.1
  ·exact .inr (Prod.mk.inj ep).2
 rcases h with h | h
 ·obtain ⟨p,hp,z⟩:=e _ h
  rcases z with z | z
  ·exact (hfree p hp z).elim
  ·exact (hcell p hp z).elim
 ·obtain ⟨p,hp,z⟩:=e _ h
  rcases z with z | z
  ·exact (hfree p hp z).elim
  ·exact (hfree p hp z).elim
theorem Ajk {σ:St} {H:Hp} {B:Bool->Hp->Prop} (q:B true H):Abm σ H B:=q
theorem Lu {X:Cx} {elt tg iter:Expr} {ifs:List Expr} {scope:Scope} {pos:Pos} {wi:TI} {g:TG} {tc:TT} {te:TE} (k:Nat) (fr:List Nat) (N' fn:List Str) (hc:X.calm = true)
  (hi:PI X tg iter wi) (hN:N'.length = k + fr.length)
  (hfr:∀ j y,N'[k + j]? = some y->∀ i,fr[j]? = some i->X.N[i]? = some y/\X.env.kindOf y = some .cell/\(compEnvC scope (Dp fn X.env) 0 X.env).kindOf y = some .cell/\y ∈ fn)
  (hfn:∀ y ∈ fn,X.env.kindOf y = some .cell) (hkd:∀ p ∈ scope.names,(p.2 = .cell\/p.2 = .free)->p.1 ∈ fn)
  (hg:∀ C fp s H,PG (Dj X scope N' fn C fp s H) tg g) (ht:∀ C fp s H,Qe (Dj X scope N' fn C fp s H) ifs tc) (he:∀ C fp s H,PE (Dj X scope N' fn C fp s H) elt te)
  (hclos:closureFor scope X.env = pure (Dp fn X.env)) (hcell:∀ y ∈ scope.names,y.2 ≠ .cell) (hkind:scope.kind = .function) (hnames:∀ y ∈ scope.names,y.2 = .local->scope.names.lookup y.1 = some .local)
  (hs:∀ x,foldedSetIterable iter X.env x = pure x:=by intro _; rfl):PE X (.ListComp elt [⟨tg,iter,ifs,0⟩] scope pos) (Jm wi g tc te k fr):=by
 refine AaY hc hi hN hfr hfn (fun y h=>?_) hg ht he hclos hcell hkind hnames hs
 have e:∀ k,(compEnvC scope (Dp fn X.env) 0 X.env).kindOf y = some k->∃ p ∈ scope.names,p.1 = y/\(p.2 = .free\/p.2 = k):=by
  intro k h
  have m:=Jk (show (relabel scope X.env).names.lookup y = some k from h)
  obtain ⟨p,hp,ep⟩:=List.mem_map.mp (show (y,k) ∈ scope.names.map _ from m)
  obtain ⟨n,kd⟩:=p
  refine ⟨(n,kd),hp,?_⟩
  dsimp only at ep
  split at ep
  ·rename_i c
   simp only [Bool.and_eq_true,beq_iff_eq] at c
   exact ⟨(Prod.mk.inj ep).1,.inl c.1.1⟩
  ·exact ⟨(Prod.mk.inj ep).1,.inr (Prod.mk.inj ep).2⟩
 rcases h with h | h
 ·obtain ⟨p,hp,z1,z⟩:=e _ h
  rw [<- z1]; exact hkd p hp (z.elim .inr .inl)
 ·obtain ⟨p,hp,z1,z⟩:=e _ h
  rw [<- z1]; exact hkd p hp (.inr (z.elim id id))
theorem Rp {X:Cx} {elt tg iter:Expr} {ifs:List Expr} {scope:Scope} {pos px spos:Pos} {i:Nat} {x:Str} {wi:TI} {g:TG} {tc:TT} {te:TE} (k:Nat) (fr:List Nat) (N' fn:List Str) (hc:X.calm = true)
  (hi:PI X tg iter wi) (hN:N'.length = k + fr.length)
  (hfr:∀ j y,N'[k + j]? = some y->∀ i,fr[j]? = some i->X.N[i]? = some y/\X.env.kindOf y = some .cell/\(compEnvC scope (Dp fn X.env) 0 X.env).kindOf y = some .cell/\y ∈ fn)
  (hfn:∀ y ∈ fn,X.env.kindOf y = some .cell) (hkd:∀ p ∈ scope.names,(p.2 = .cell\/p.2 = .free)->p.1 ∈ fn)
  (hg:∀ C fp s H,PG (Dj X scope N' fn C fp s H) tg g) (ht:∀ C fp s H,Qe (Dj X scope N' fn C fp s H) ifs tc) (he:∀ C fp s H,PE (Dj X scope N' fn C fp s H) elt te)
  (hclos:closureFor scope X.env = pure (Dp fn X.env)) (hcell:∀ y ∈ scope.names,y.2 ≠ .cell) (hkind:scope.kind = .function) (hnames:∀ y ∈ scope.names,y.2 = .local->scope.names.lookup y.1 = some .local)
  (hs:∀ x,foldedSetIterable iter X.env x = pure x:=by intro _; rfl) (hNd:X.N.Nodup) (hix:X.N[i]? = some x) (hx:Loc X.env.scope x) (hsw:swapsWith (.ListComp elt [⟨tg,iter,ifs,0⟩] scope pos) (some (.Name x px)) spos.line X.env = pure true)
  (hf:X.fn x = true\/X.env.scope.names.lookup x = some .local:=by first | exact .inl rfl | exact .inr rfl | assumption):PS X (.Assign [.Name x px] (.ListComp elt [⟨tg,iter,ifs,0⟩] scope pos) spos) (Sh (Jm wi g tc te k fr) (Lx i)):=by
 refine AaF hc hi hN hfr hfn (fun y h=>?_) hg ht he hclos hcell hkind hnames hs hNd hix hx hsw hf
 have e:∀ k,(compEnvC scope (Dp fn X.env) 0 X.env).kindOf y = some k->∃ p ∈ scope.names,p.1 = y/\(p.2 = .free\/p.2 = k):=by
  intro k h
  have m:=Jk (show (relabel scope X.env).names.lookup y = some k from h)
  obtain ⟨p,hp,ep⟩:=List.mem_map.mp (show (y,k) ∈ scope.names.map _ from m)
  obtain ⟨n,kd⟩:=p
  refine ⟨(n,kd),hp,?_⟩
  dsimp only at ep
  split at ep
  ·rename_i c
   simp only [Bool.and_eq_true,beq_iff_eq] at c
   exact ⟨(Prod.mk.inj ep).1,.inl c.1.1⟩
  ·exact ⟨(Prod.mk.inj ep).1,.inr (Prod.mk.inj ep).2⟩
 rcases h with h | h
 ·obtain ⟨p,hp,z1,z⟩:=e _ h
  rw [<- z1]; exact hkd p hp (z.elim .inr .inl)
 ·obtain ⟨p,hp,z1,z⟩:=e _ h
  rw [<- z1]; exact hkd p hp (.inr (z.elim id id))
theorem Acb {K:PySem.W.Frag} {σ:St} {H:Hp} {Q:VK} {D a:Addr} {xs:List V} {g:TG} {tc:TT} {te:TE} {k:Nat} {fr:List Nat} (Pv:Nat->Hp->Prop)
  (h0:Pv 0 H) (hl:∀ i H',i <= xs.length->Pv i H'->SqL K H' a xs)
  (hs:∀ i x H' (N:Hp->Prop),xs[i]? = some x->Pv i H'->(∀ H'',Pv (i + 1) H''->N H'')->g x (compσ k fr σ) H' fun σ2 H2=>σ2.drop k = (compσ k fr σ).drop k/\tc σ2 H2 fun b H3 =>
   if b = true then te σ2 H3 (fun y H4=>∃ ys,H4 D = some (.lst ys)/\ys.length < sizeLine/\N (upd H4 D (.lst (ys ++ [y])))) else N H3)
  (hd:∀ H',Pv xs.length H'->Q (.ref D) H') :
  ∃ W:Nat->Nat->Hp->Prop,(∃ m,W 0 m H)/\∀ i m H,W i m H->((Itl K a).stop i H/\Q (.ref D) H)\/((Itl K a).go i H/\∀ x H',(Itl K a).yld i H x H'->g x (compσ k fr σ) H' fun σ2 H2 =>
  σ2.drop k = (compσ k fr σ).drop k/\tc σ2 H2 fun b H3=>if b = true then te σ2 H3 (fun y H4=>∃ ys,H4 D = some (.lst ys)/\ys.length < sizeLine/\∃ m',m' < m/\W (i + 1) m' (upd H4 D (.lst (ys ++ [y])))) else ∃ m',m' < m/\W (i + 1) m' H3):=by
 refine ⟨fun i m H=>m = xs.length - i/\i <= xs.length/\Pv i H,⟨xs.length,by simp,Nat.zero_le _,h0⟩,?_⟩
 rintro i m H' ⟨rfl,hi,p⟩
 have q:=hl i H' hi p
 by_cases hlt:i < xs.length
 ·refine .inr ⟨⟨xs,xs[i],q,by simp [hlt]⟩,fun x H'' y=>?_⟩
  obtain ⟨e,y⟩:=y
  subst e
  exact hs i x _ (fun H''=>∃ m',m' < xs.length - i/\m' = xs.length - (i + 1)/\i + 1 <= xs.length/\Pv (i + 1) H'') (y xs q) p fun H'' p'=>⟨_,by omega,rfl,hlt,p'⟩
 ·have e:i = xs.length:=by omega
  subst e
  exact .inl ⟨⟨xs,q,Nat.le_refl _⟩,hd H' p⟩
theorem Abn {σ:St} {H:Hp} {Q:VK} {D:Addr} {lo:Int} {n:Nat} {g:TG} {tc:TT} {te:TE} {k:Nat} {fr:List Nat} (Pv:Nat->Hp->Prop) (h0:Pv 0 H)
  (hs:∀ i H' (N:Hp->Prop),i < n->Pv i H'->(∀ H'',Pv (i + 1) H''->N H'')->g (.int (lo + i)) (compσ k fr σ) H' fun σ2 H2=>σ2.drop k = (compσ k fr σ).drop k/\tc σ2 H2 fun b H3 =>
   if b = true then te σ2 H3 (fun y H4=>∃ ys,H4 D = some (.lst ys)/\ys.length < sizeLine/\N (upd H4 D (.lst (ys ++ [y])))) else N H3)
  (hd:∀ H',Pv n H'->Q (.ref D) H') :
  ∃ W:Nat->Nat->Hp->Prop,(∃ m,W 0 m H)/\∀ i m H,W i m H->((Itr lo n).stop i H/\Q (.ref D) H)\/((Itr lo n).go i H/\∀ x H',(Itr lo n).yld i H x H'->g x (compσ k fr σ) H' fun σ2 H2 =>
  σ2.drop k = (compσ k fr σ).drop k/\tc σ2 H2 fun b H3=>if b = true then te σ2 H3 (fun y H4=>∃ ys,H4 D = some (.lst ys)/\ys.length < sizeLine/\∃ m',m' < m/\W (i + 1) m' (upd H4 D (.lst (ys ++ [y])))) else ∃ m',m' < m/\W (i + 1) m' H3):=by
 refine ⟨fun i m H=>m = n - i/\i <= n/\Pv i H,⟨n,by simp,Nat.zero_le _,h0⟩,?_⟩
 rintro i m H' ⟨rfl,hi,p⟩
 by_cases hlt:i < n
 ·refine .inr ⟨hlt,fun x H'' y=>?_⟩
  obtain ⟨e,y⟩:=y
  subst e
  subst y
  exact hs i _ (fun H''=>∃ m',m' < n - i/\m' = n - (i + 1)/\i + 1 <= n/\Pv (i + 1) H'') hlt p fun H'' p'=>⟨_,by omega,rfl,hlt,p'⟩
 ·have e:i = n:=by omega
  subst e
  exact .inl ⟨Nat.le_refl _,hd H' p⟩
section
variable {X:Cx} {K':PySem.W.Frag}
theorem Cp (K':PySem.W.Frag) (h:X.K = K':=by rfl):IxR X (AbW K'):=by subst h; exact Sr
theorem Do (K':PySem.W.Frag) (h:X.K = K':=by rfl):IxR X (AbY K'):=by subst h; exact Du
theorem Ahp (K':PySem.W.Frag) (hu:X.A.units + 64 < cLine) (h:X.K = K':=by rfl):OpR X (compareOp .Eq) (Wb K' false):=by subst h; exact Adb hu
theorem Aaz (K':PySem.W.Frag) (hu:X.A.units + 64 < cLine) (h:X.K = K':=by rfl):OpR X (compareOp .NotEq) (Wb K' true):=by subst h; exact AiC hu
theorem AhA (K':PySem.W.Frag) (hu:X.A.units + 64 < cLine) (h:X.K = K':=by rfl):OpR X (compareOp .Eq) (Afe K' false):=by subst h; exact AiR hu
theorem Th (K':PySem.W.Frag) (h:X.K = K':=by rfl):Ou X (.builtin "isinstance") (fun vs H Q=>∃ x n t b,vs = [x,.ty n]/\Ge K' H x t/\PySem.W.kitOne K' t (.type n) = some b/\Q (.bl b) H):=by subst h; exact Gn
theorem Cu (K':PySem.W.Frag) (h:X.K = K':=by rfl):Ou X (.builtin "len") (fun xs H Q=>∃ p ys,xs = [.ref p]/\(SqL K' H p ys\/SqT K' H p ys)/\Q (.int ys.length) H):=by subst h; exact Fn
end
end L2
set_option Elab.async false
set_option linter.all false
set_option maxRecDepth 100000
set_option maxHeartbeats 4000000
namespace L2
open PySem PySem.Spec PyProof.Rows
theorem Same.laid {H:Hp} {p:Addr} {o:HO} (h:H p = none):Same H (upd H p o):=fun q u e=>by rw [Bg (by intro z; subst z; rw [h] at e; cases e)]; exact e
def Chg (a:Addr) (H H':Hp):Prop:=∀ q o,H q = some o->q ≠ a->H' q = some o
theorem Chg.put {H:Hp} {a:Addr} {o:HO}:Chg a H (upd H a o):=fun q u e n=>by rw [Bg n]; exact e
theorem Chg.trans {a:Addr} {H H1 H2:Hp} (x:Chg a H H1) (y:Chg a H1 H2):Chg a H H2:=fun q o h n=>y q o (x q o h n) n
theorem Chg.same {a:Addr} {H H1 H2:Hp} (x:Chg a H H1) (y:Same H1 H2):Chg a H H2:=fun q o h n=>y q o (x q o h n)
theorem Same.chg {a:Addr} {H H1 H2:Hp} (x:Same H H1) (y:Chg a H1 H2) (f:H a = none):Same H H2:=fun q o h=>y q o (x q o h) (by intro z; subst z; rw [f] at h; cases h)
theorem Chg.tup {a q:Addr} {H H':Hp} {xs zs:List V} (c:Chg a H H') (ha:H a = some (.lst xs)) (h:H q = some (.tup zs)):H' q = some (.tup zs):=c q _ h (by intro z; subst z; rw [ha] at h; cases h)
section
variable {X:Cx} {es:List Expr} {t:TA} {pos:Pos}
def Aby (t:TA):TE:=fun σ H Q=>t σ H fun xs H1=>xs.length <= sizeLine/\∀ p H2,H1 p = none->Same H1 H2->H2 p = some (.tup xs)->Q (.ref p) H2
def AbS (t:TA):TE:=fun σ H Q=>t σ H fun xs H1=>xs.length <= sizeLine/\∀ p H2,H1 p = none->Same H1 H2->H2 p = some (.lst xs)->Q (.ref p) H2
theorem Dw {x1} (h:PA X es t):PE X (.Tuple es x1 pos) (Aby t):=by
 intro pins s σ H Q I hq
 refine wpAny_Tuple_spliced (thn (h pos pins s σ H _ I hq) fun us s1 ⟨xs,H1,I1,r,z,q⟩=>⟨by rw [<- r.length]; exact z,?_⟩)
 have hf:H1 s1.heap.objs.size = none:=I1.hok.fresh (Nat.le_refl _)
 refine ⟨.ref s1.heap.objs.size,upd H1 s1.heap.objs.size (.tup xs),I1.laid (t':=s1.toks) (fun b u e=>Heap.get?_push_of_some _ e) (Nat.le_refl _) ?_,rfl,q _ _ hf (Same.laid hf) Bl⟩
 exact ⟨z,us,r,⟨_,Heap.get?_push_size _ rfl,rfl,_,rfl⟩⟩
theorem Cw (h:PA X es t):PE X (.List es pos) (AbS t):=by
 intro pins s σ H Q I hq
 refine wpAny_List_spliced (thn (h pos pins s σ H _ I hq) fun us s1 ⟨xs,H1,I1,r,z,q⟩=>⟨by rw [<- r.length]; exact z,?_⟩)
 have hf:H1 s1.heap.objs.size = none:=I1.hok.fresh (Nat.le_refl _)
 refine ⟨.ref s1.heap.objs.size,upd H1 s1.heap.objs.size (.lst xs),I1.laid (t':=s1.toks) (fun b u e=>Heap.get?_push_of_some _ e) (Nat.le_refl _) ?_,rfl,q _ _ hf (Same.laid hf) Bl⟩
 exact ⟨z,us,0,r,Heap.get?_push_size _ rfl⟩
def Abe:R2:=fun x y H Q=>∃ l b xs zs,x = .ref l/\y = .ref b/\H l = some (.lst xs)/\H b = some (.lst zs)/\xs.length + zs.length <= sizeLine/\∀ p H',H p = none->Same H H'->H' p = some (.lst (xs ++ zs))->Q (.ref p) H'
theorem Db:OpR X (binaryOp .Add) Abe:=fun pins s σ H x y v u Q I r1 r2 ⟨l,b,xs,zs,e1,e2,h1,h2,hz,q⟩=>Ai0 pins s σ H x y v u Q I r1 r2 ⟨l,b,xs,zs,e1,e2,h1,h2,hz,fun p hp=>q p _ hp (Same.laid hp) Bl⟩
def Uu:V->List V->Hp->VK->Prop:=fun x vs H Q=>∃ l xs y,x = .ref l/\vs = [y]/\H l = some (.lst xs)/\xs.length < sizeLine/\∀ H',Chg l H H'->H' l = some (.lst (xs ++ [y]))->Q .non H'
theorem Fd:MtR X "list.append" Uu:=fun pins s σ H x vs v us Q I rx rv ⟨l,xs,y,e1,e2,h1,hz,q⟩=>Wo pins s σ H x vs v us Q I rx rv ⟨l,xs,y,e1,e2,h1,hz,q _ Chg.put Bl⟩
variable {K':PySem.W.Frag}
def Abg (K:PySem.W.Frag):V->Option Int->Option Int->Hp->VK->Prop:=fun x lo hi H Q=>∃ a xs,x = .ref a/\SqL K H a xs/\∀ p H',H p = none->Same H H'->H' p = some (.lst (Jq xs lo hi))->Q (.ref p) H'
theorem Dq (K':PySem.W.Frag) (h:X.K = K':=by rfl):SlR X (Abg K'):=by
 subst h
 exact fun pins s σ H x v vl vu lo hi sl Q I rx hs pl pu ⟨a,xs,e,hx,q⟩=>Ahe pins s σ H x v vl vu lo hi sl Q I rx hs pl pu ⟨a,xs,e,hx,fun p hp=>q p _ hp (Same.laid hp) Bl⟩
def AkP (K:PySem.W.Frag):V->Option Int->Option Int->Hp->VK->Prop:=fun x lo hi H Q=>∃ a xs,x = .ref a/\SqT K H a xs /\
 ¬ (HT.sIx xs.length 0 lo = 0/\HT.sIx xs.length xs.length hi = xs.length)/\∀ p H',H p = none->Same H H'->H' p = some (.tup (Jq xs lo hi))->Q (.ref p) H'
theorem Ag7 (K':PySem.W.Frag) (h:X.K = K':=by rfl):SlR X (AkP K'):=by
 subst h
 exact fun pins s σ H x v vl vu lo hi sl Q I rx hs pl pu ⟨a,xs,e,hx,hw,q⟩=>Aj0 pins s σ H x v vl vu lo hi sl Q I rx hs pl pu ⟨a,xs,e,hx,hw,fun p hp=>q p _ hp (Same.laid hp) Bl⟩
theorem Fr (K':PySem.W.Frag) (h:X.K = K':=by rfl):Ou X (.type "list") (fun xs H Q=>∃ p ys,xs = [.ref p]/\(SqL K' H p ys\/SqT K' H p ys)/\∀ l H',H l = none->Same H H'->H' l = some (.lst ys)->Q (.ref l) H'):=by
 subst h
 exact fun pins s σ H xs us Q I r ⟨p,ys,e,hx,q⟩=>Yc pins s σ H xs us Q I r ⟨p,ys,e,hx,fun l hl=>q l _ hl (Same.laid hl) Bl⟩
end
section
variable {σ:St} {H:Hp} {Q:VK} {K:PySem.W.Frag}
theorem Aim {t:TA} (q:t σ H fun xs H1=>xs.length <= sizeLine/\∀ p H2,H1 p = none->Same H1 H2->H2 p = some (.lst xs)->Q (.ref p) H2):AbS t σ H Q:=q
theorem AhX {t:TA} (q:t σ H fun xs H1=>xs.length <= sizeLine/\∀ p H2,H1 p = none->Same H1 H2->H2 p = some (.tup xs)->Q (.ref p) H2):Aby t σ H Q:=q
theorem Al3 {r:V->Option Int->Option Int->Hp->VK->Prop} {te:TE} {tl th:TO} (q:te σ H fun x H1=>tl σ H1 fun l H2=>th σ H2 fun u H3=>r x l u H3 Q):tSl r te tl th σ H Q:=q
theorem Afo {R:Option Int->Hp->Prop} (q:R none H):Wh σ H R:=q
theorem Ajt {t:TE} {R:Option Int->Hp->Prop} (q:t σ H fun x H1=>∃ i,x = .int i/\R (some i) H1):AbE t σ H R:=q
theorem Alf {i:Int} {P:Int->Prop} (q:P i):∃ j,V.int i = V.int j/\P j:=⟨i,rfl,q⟩
theorem Ds {a:Addr} {xs:List V} {y:V} (h:H a = some (.lst xs)) (hl:xs.length < sizeLine) (q:∀ H',Chg a H H'->H' a = some (.lst (xs ++ [y]))->Q .non H'):Uu (.ref a) [y] H Q:=⟨a,xs,y,rfl,rfl,h,hl,q⟩
theorem Yu {a b:Addr} {xs zs:List V} (h1:H a = some (.lst xs)) (h2:H b = some (.lst zs)) (hl:xs.length + zs.length <= sizeLine) (q:∀ p H',H p = none->Same H H'->H' p = some (.lst (xs ++ zs))->Q (.ref p) H'):Abe (.ref a) (.ref b) H Q:=⟨a,b,xs,zs,rfl,rfl,h1,h2,hl,q⟩
theorem Uy {a:Addr} {xs ys:List V} {lo hi:Option Int} (h:SqL K H a xs) (e:Jq xs lo hi = ys) (q:∀ p H',H p = none->Same H H'->H' p = some (.lst ys)->Q (.ref p) H'):Abg K (.ref a) lo hi H Q:=⟨a,xs,rfl,h,by rw [e]; exact q⟩
theorem Ahr {xs:List V} {n:Nat} (h:n <= xs.length):Jq xs (some (n:Int)) none = xs.drop n:=by
 unfold Jq
 rw [HT.sIx_nat,HT.sIx_none,Nat.min_eq_left h,List.take_of_length_le (by rw [List.length_drop]; omega)]
theorem Vt {xs:List V} {n:Nat}:Jq xs none (some (n:Int)) = xs.take n:=by
 unfold Jq
 rw [HT.sIx_nat,HT.sIx_none,List.drop_zero,Nat.sub_zero]
 by_cases h:n <= xs.length
 ·rw [Nat.min_eq_left h]
 ·rw [Nat.min_eq_right (by omega),List.take_length,List.take_of_length_le (by omega)]
end
def CP (J:It) (D:Addr) (g:TG) (tc:TT) (te:TE) (k:Nat) (fr:List Nat) (σ:St) (H1:Hp) (Q:VK):Prop :=
 ∃ W:Nat->Nat->Hp->Prop,(∃ m,W 0 m H1)/\∀ i m H,W i m H->(J.stop i H/\Q (.ref D) H)\/(J.go i H/\∀ x H',J.yld i H x H'->g x (compσ k fr σ) H' fun σ2 H2 =>
  σ2.drop k = (compσ k fr σ).drop k/\tc σ2 H2 fun b H3=>if b = true then te σ2 H3 (fun y H4=>∃ ys,H4 D = some (.lst ys)/\ys.length < sizeLine/\∃ m',m' < m/\W (i + 1) m' (upd H4 D (.lst (ys ++ [y])))) else ∃ m',m' < m/\W (i + 1) m' H3)
theorem Lp {σ:St} {H:Hp} {Q:VK} {wi:TI} {g:TG} {tc:TT} {te:TE} {k:Nat} {fr:List Nat} (q:wi σ H fun J H1=>∀ D,H1 D = none->CP J D g tc te k fr σ (upd H1 D (.lst [])) Q):Jm wi g tc te k fr σ H Q:=q
theorem CP.list {K:PySem.W.Frag} {σ:St} {H:Hp} {Q:VK} {D a:Addr} {g:TG} {tc:TT} {te:TE} {k:Nat} {fr:List Nat} (xs:List V) (Pv:Nat->Hp->Prop)
  (h0:Pv 0 H) (hl:∀ i H',i <= xs.length->Pv i H'->SqL K H' a xs)
  (hs:∀ i x H' (N:Hp->Prop),xs[i]? = some x->Pv i H'->(∀ H'',Pv (i + 1) H''->N H'')->g x (compσ k fr σ) H' fun σ2 H2=>σ2.drop k = (compσ k fr σ).drop k/\tc σ2 H2 fun b H3 =>
   if b = true then te σ2 H3 (fun y H4=>∃ ys,H4 D = some (.lst ys)/\ys.length < sizeLine/\N (upd H4 D (.lst (ys ++ [y])))) else N H3)
  (hd:∀ H',Pv xs.length H'->Q (.ref D) H'):CP (Itl K a) D g tc te k fr σ H Q:=Acb Pv h0 hl hs hd
theorem CP.range {σ:St} {H:Hp} {Q:VK} {D:Addr} {lo:Int} {n:Nat} {g:TG} {tc:TT} {te:TE} {k:Nat} {fr:List Nat} (Pv:Nat->Hp->Prop) (h0:Pv 0 H)
  (hs:∀ i H' (N:Hp->Prop),i < n->Pv i H'->(∀ H'',Pv (i + 1) H''->N H'')->g (.int (lo + i)) (compσ k fr σ) H' fun σ2 H2=>σ2.drop k = (compσ k fr σ).drop k/\tc σ2 H2 fun b H3 =>
   if b = true then te σ2 H3 (fun y H4=>∃ ys,H4 D = some (.lst ys)/\ys.length < sizeLine/\N (upd H4 D (.lst (ys ++ [y])))) else N H3)
  (hd:∀ H',Pv n H'->Q (.ref D) H'):CP (Itr lo n) D g tc te k fr σ H Q:=Abn Pv h0 hs hd
end L2
set_option Elab.async false
set_option linter.all false
set_option maxRecDepth 100000
set_option maxHeartbeats 4000000
namespace L2
open PySem PySem.Spec PyProof.Rows
theorem Sy:∀ {ns:List Int} {us:List Value},Vals (ns.map V.int) us->IntsAre us ns
 | [],_,.nil=>.nil
 | n :: ns,_,.cons r t=>by
  obtain ⟨k,rfl⟩:=(show ∃ t,_ = Value.int n t from r)
  exact .cons n k (Sy t)
theorem Tg:∀ {ns:List Int} {us:List Value},IntsAre us ns->Vals (ns.map V.int) us
 | _,_,.nil=>.nil
 | _,_,.cons n t h=>.cons ⟨t,rfl⟩ (Tg h)
section
variable {X:Cx}
end
section
variable {X:Cx}
def Yg:V->List V->Hp->VK->Prop:=fun x vs H Q=>∃ l xs,∃ k:Nat,∃ y,x = .ref l/\vs = [.int (k:Int),y]/\k <= xs.length/\H l = some (.lst xs)/\xs.length < 1000/\∀ H',Chg l H H'->H' l = some (.lst (xs.take k ++ y :: xs.drop k))->Q .non H'
theorem AbJ:MtR X "list.insert" Yg:=by
 intro pins s σ H x vs v us Q I rx rv h
 obtain ⟨l,xs,k,y,rfl,rfl,hk,hH,hz,q⟩:=h
 cases rx
 obtain ⟨u,us',rfl,ru,rv'⟩:∃ u us',us = u :: us'/\RelV (.int (k:Int)) u/\Vals [y] us':=by
  cases rv with
  | cons a b=>exact ⟨_,_,rfl,a,b⟩
 obtain ⟨yv,rfl,ry⟩:=rv'.one
 obtain ⟨t,rfl⟩:=ru
 obtain ⟨z,its,n,r,hl,e⟩:=I.lstM hH
 have hk2:k <= its.length:=by rw [<- hl]; exact hk
 have hz2:its.length < sizeLine:=by rw [<- hl]; exact Ly (by omega)
 have hf:Builtin.List.listFitsIndex (k:Int) = true:=by
  unfold Builtin.List.listFitsIndex
  simp only [Bool.and_eq_true,decide_eq_true_eq]
  omega
 have hf':¬ (!Builtin.List.listFitsIndex (k:Int)) = true:=fun w=>by rw [hf] at w; cases w
 have hs':its.toArray.size <= sizeLine:=by rw [List.size_toArray]; exact Nat.le_of_lt hz2
 generalize ek:(k:Int) = kk at hf' 
 have M0:=fun (a:¬ (!Builtin.List.listFitsIndex kk) = true)=>PySem.AutoSeq1.list_insert_list_int_val_1 l its.toArray n kk t yv a
 have M1:=M0 hf'
 have M:=M1 hs'
 refine call_meets F.slot_list_insert ⟨_,e,rfl⟩ F.entry_list_insert (F.args_list_insert_3 _ _ _) M ⟨e,?_⟩
 refine ⟨.non,_,I.lset (its':=its.take k ++ yv :: its.drop k) hH e ?_ (Vals.append (r.take _) (.cons ry (r.drop _))) ?_,rfl,q _ Chg.put Bl⟩
 ·show (its.toArray.extract 0 (if kk < 0 then (kk + ((its.toArray.size:Nat):Int)).toNat else min kk.toNat its.toArray.size)).push yv ++ its.toArray.extract (if kk < 0 then (kk + ((its.toArray.size:Nat):Int)).toNat else min kk.toNat its.toArray.size) = _
  have ek2:kk.toNat = k:=by omega
  rw [if_neg (by omega),List.size_toArray,ek2,Nat.min_eq_left hk2]
  apply Array.toList_inj.mp
  simp
  exact List.take_of_length_le (by simp)
 ·simp [List.length_take,List.length_drop]
  have:=Ly (n:=xs.length) (by omega)
  omega
end
end L2
set_option Elab.async false
set_option linter.all false
set_option maxRecDepth 100000
set_option maxHeartbeats 4000000
namespace L2
open PySem PySem.Spec PyProof.Rows
section
variable {M:Model} {A:Around} {E:Value->Shared->Prop} {s:Shared} {base:Heap} {env:Env} {outer:List Env} {L e:Addr} {Q:Unit->Shared->Prop}
end
section
variable {P:Program} {w:World} {H:Hp} {h h':Heap} {a:Addr} {o:HO}
end
section
variable {P:Program} {w:World} {K:PySem.W.Frag} {mg:Str->Option Value} {base:Heap} {N:List Str} {qual:Str} {scope:Scope} {f:Addr} {cd:Value} {A:Around} {outer:List Env} {s0:Shared} {H0:Hp} {E:XK}
end
section
variable {P:Program} {w:World} {K:PySem.W.Frag} {mg:Str->Option Value} {base:Heap} {N:List Str} {qual:Str} {scope:Scope} {f:Addr} {cd:Value} {A:Around} {outer:List Env} {s0:Shared} {H0:Hp} {E:XK}
end
def Nw (X:Cx) (pins:List (Addr × Obj)) (b:Addr):Prop:=X.s₀.heap.get? b = none/\b ≠ X.env.locals/\(∀ y c,X.env.cells.lookup y = some c->c ≠ b)/\∀ p ∈ X.pn ++ pins,p.1 ≠ b
section
variable {X:Cx} {pins:List (Addr × Obj)} {σ:St} {H:Hp} {s:Shared}
end
def AlZ (x C:Addr):Heap->Prop:=fun h=>∃ o vs,h.get? x = some o/\o.cls = .ref C/\o.dict = none/\o.data = .fields vs
section
variable {X:Cx} {pins:List (Addr × Obj)} {σ:St} {H:Hp} {s:Shared}
end
section
variable {X:Cx} {k:Nat} {f C:Addr} {fd:FuncData} {ps:List Str} {sp:Sp} {dvs:List V} {ds:List Value} {x m:Str} {p pos apos:Pos} {e o:Expr} {es:List Expr} {ta:TE} {t:TA}
end
section
variable {σ:St} {H:Hp} {Q:VK} {D:Ends} {Ex:Addr->Hp->Prop}
end
end L2
set_option Elab.async false
set_option linter.all false
set_option maxRecDepth 100000
set_option maxHeartbeats 4000000
namespace L2
open PySem PySem.Spec PyProof.Rows
section
variable {X:Cx} {pos:Pos} {a b:Expr} {op op' op2:CmpOp} {ops:List CmpOp} {es:List Expr} {e2:Expr} {ta tb:TE} {r:R2} {u:V->TE}
end
end L2
set_option Elab.async false
set_option linter.all false
set_option maxRecDepth 100000
set_option maxHeartbeats 4000000
namespace L2
open PySem PySem.Spec PyProof.Rows
abbrev flt (k:Int) (l:List Keyed):List Keyed:=l.filter fun p=>decide (numOf p.1 = k)
def Stb (l0 l:List Keyed):Prop:=∀ k,flt k l = flt k l0
def RevTo (l0 l:List Keyed) (c:Nat):Prop:=(∀ k,flt k (l.take c) = (flt k (l0.take c)).reverse)/\l.drop c = l0.drop c
section
variable {a:Array Keyed}
theorem AiX {l k:Nat} {p:Keyed} (hk:a[k]? = some p) (hl:l <= k) :
  ∃ xs ys zs,a.toList = xs ++ (ys ++ p :: zs)/\xs.length = l/\ys.length = k - l/\(bubble a k (k - l)).toList = xs ++ (p :: (ys ++ zs)):=by
 have hs:k < a.size:=by
  rcases Nat.lt_or_ge k a.size with h | h
  ·exact h
  ·rw [Array.getElem?_eq_none h] at hk; cases hk
 have hkl:a.toList[k]? = some p:=by rw [Array.getElem?_toList]; exact hk
 have hsl:k < a.toList.length:=by simpa using hs
 refine ⟨a.toList.take l,(a.toList.drop l).take (k - l),a.toList.drop (k + 1),?_,by rw [List.length_take]; omega,by rw [List.length_take,List.length_drop]; omega,?_⟩
 ·have e1:a.toList.drop k = p :: a.toList.drop (k + 1):=by
   rw [List.drop_eq_getElem_cons hsl]
   rw [List.getElem?_eq_getElem hsl] at hkl
   rw [Option.some.inj hkl]
  have e2:(a.toList.drop l).drop (k - l) = a.toList.drop k:=by rw [List.drop_drop]; congr 1; omega
  rw [<- e1,<- e2,List.take_append_drop,List.take_append_drop]
 ·have hlt:(a.toList.take l).length = l:=by rw [List.length_take]; omega
  have hly:((a.toList.drop l).take (k - l)).length = k - l:=by rw [List.length_take,List.length_drop]; omega
  apply List.ext_getElem?
  intro i
  rw [Array.getElem?_toList,getElem?_bubble hs (k - l) (by omega),show k - (k - l) = l by omega]
  rcases Nat.lt_trichotomy i l with h | h | h
  ·rw [if_neg (by omega),if_neg (by omega),List.getElem?_append_left (by omega),List.getElem?_take_of_lt h,Array.getElem?_toList]
  ·subst h
   rw [if_pos rfl,List.getElem?_append_right (by omega),hlt,Nat.sub_self,hk]; rfl
  ·rw [if_neg (by omega),List.getElem?_append_right (by omega),hlt,show i - l = (i - l - 1) + 1 by omega,List.getElem?_cons_succ]
   by_cases h2:i <= k
   ·rw [if_pos ⟨h,h2⟩,List.getElem?_append_left (by omega),List.getElem?_take_of_lt (by omega),List.getElem?_drop,<- Array.getElem?_toList]
    congr 1; omega
   ·rw [if_neg (by omega),List.getElem?_append_right (by omega),hly,List.getElem?_drop,<- Array.getElem?_toList]
    congr 1; omega
theorem AgQ {k:Int} {xs ys zs:List Keyed} {p:Keyed} (h:∀ q ∈ ys,numOf q.1 ≠ numOf p.1):flt k (xs ++ (p :: (ys ++ zs))) = flt k (xs ++ (ys ++ p :: zs)):=by
 simp only [flt,List.filter_append,List.filter_cons]
 by_cases e:numOf p.1 = k
 ·have z:ys.filter (fun q=>decide (numOf q.1 = k)) = []:=List.filter_eq_nil_iff.mpr fun q hq=>by
   simpa using fun z=>h q hq (z.trans e.symm)
  simp [e,z]
 ·simp [e]
theorem Aaf {i j:Nat} (hij:i <= j) (hj:j <= a.size):(mirror a i j ((j - i) / 2)).toList = a.toList.take i ++ (((a.toList.drop i).take (j - i)).reverse ++ a.toList.drop j):=by
 have hsl:j <= a.toList.length:=by simpa using hj
 have hlt:(a.toList.take i).length = i:=by rw [List.length_take]; omega
 have hly:(((a.toList.drop i).take (j - i)).reverse).length = j - i:=by rw [List.length_reverse,List.length_take,List.length_drop]; omega
 have hly2:((a.toList.drop i).take (j - i)).length = j - i:=by rw [List.length_take,List.length_drop]; omega
 apply List.ext_getElem?
 intro k
 rw [Array.getElem?_toList,getElem?_mirror_all hj]
 by_cases h:k < i
 ·rw [if_neg (by omega),List.getElem?_append_left (by omega),List.getElem?_take_of_lt h,Array.getElem?_toList]
 ·rw [List.getElem?_append_right (by omega),hlt]
  by_cases h2:k < j
  ·rw [if_pos (by omega),List.getElem?_append_left (by omega),List.getElem?_reverse (by omega),hly2,List.getElem?_take_of_lt (by omega),List.getElem?_drop,<- Array.getElem?_toList]
   congr 1; omega
  ·rw [if_neg (by omega),List.getElem?_append_right (by omega),hly,List.getElem?_drop,<- Array.getElem?_toList]
   congr 1; omega
theorem We {c m:Nat} {p:Keyed} (h:p ∈ (a.toList.drop c).take m):∃ i,c <= i/\i < c + m/\i < a.size/\K a i = numOf p.1:=by
 obtain ⟨i,hi,e⟩:=List.mem_iff_getElem.mp h
 rw [List.length_take,List.length_drop,Array.length_toList] at hi
 refine ⟨c + i,by omega,by omega,by omega,?_⟩
 rw [K_eq (by omega),<- e,List.getElem_take,List.getElem_drop,Array.getElem_toList]
end
theorem Stb.of_rev {l0 l:List Keyed} {n:Nat} (h:RevTo l0 l n):Stb l0 ((l.take n).reverse ++ l.drop n):=fun k=>by
 have e:flt k ((l.take n).reverse) = (flt k (l.take n)).reverse:=List.filter_reverse ..
 show flt k _ = _
 rw [flt,List.filter_append]
 show flt k _ ++ flt k _ = _
 rw [e,h.1 k,List.reverse_reverse,h.2,flt,flt,<- List.filter_append,List.take_append_drop]
theorem RevTo.step {l0 l:List Keyed} {c x:Nat} {κ:Int} (h:RevTo l0 l c) (hx:c <= x) (hl:x <= l.length) (hB:∀ p ∈ (l.drop c).take (x - c),numOf p.1 = κ) (hA:∀ p ∈ l.take c,numOf p.1 ≠ κ) :
  RevTo l0 (l.take c ++ (((l.drop c).take (x - c)).reverse ++ l.drop x)) x:=by
 have l1:(l.take c ++ ((l.drop c).take (x - c)).reverse).length = x:=by
  rw [List.length_append,List.length_reverse,List.length_take,List.length_take,List.length_drop]; omega
 have e0:l0.take x = l0.take c ++ (l.drop c).take (x - c):=by
  rw [h.2,show x = c + (x - c) by omega,List.take_add]
  congr 2; omega
 rw [<- List.append_assoc]
 refine ⟨fun k=>?_,?_⟩
 ·rw [List.take_left' l1,e0]
  have r1:flt k ((l.drop c).take (x - c)).reverse = (flt k ((l.drop c).take (x - c))).reverse:=List.filter_reverse ..
  have r2:flt k (l.take c ++ ((l.drop c).take (x - c)).reverse) = flt k (l.take c) ++ flt k ((l.drop c).take (x - c)).reverse:=List.filter_append ..
  have r3:flt k (l0.take c ++ (l.drop c).take (x - c)) = flt k (l0.take c) ++ flt k ((l.drop c).take (x - c)):=List.filter_append ..
  rw [r2,r3,r1,List.reverse_append,h.1 k]
  by_cases e:k = κ
  ·have z:flt k (l.take c) = []:=List.filter_eq_nil_iff.mpr fun p hp=>by simpa using fun z=>hA p hp (z.trans e)
   have z2:=h.1 k
   rw [z] at z2
   rw [<- z2]; simp
  ·have z:flt k ((l.drop c).take (x - c)) = []:=List.filter_eq_nil_iff.mpr fun p hp=>by
    rw [hB p hp]; simpa using fun z=>e z.symm
   rw [z]; simp
 ·rw [List.drop_left' l1]
  have q:(l.drop c).drop (x - c) = (l0.drop c).drop (x - c):=by rw [h.2]
  rw [List.drop_drop,List.drop_drop,show c + (x - c) = x by omega] at q
  exact q
theorem Ahz {l:List Keyed} {c:Nat} (hl:c < l.length):l.take c ++ (((l.drop c).take (c + 1 - c)).reverse ++ l.drop (c + 1)) = l:=by
 have e:(l.drop c).take (c + 1 - c) = [l[c]]:=by
  rw [List.drop_eq_getElem_cons hl,show c + 1 - c = 1 by omega]; rfl
 rw [e]
 show l.take c ++ (l[c] :: l.drop (c + 1)) = l
 rw [<- List.drop_eq_getElem_cons hl,List.take_append_drop]
theorem RevTo.one {l0 l:List Keyed} {c:Nat} {κ:Int} (h:RevTo l0 l c) (hl:c < l.length) (hB:∀ p ∈ (l.drop c).take (c + 1 - c),numOf p.1 = κ) (hA:∀ p ∈ l.take c,numOf p.1 ≠ κ):RevTo l0 l (c + 1):=by
 have q:=h.step (x:=c + 1) (by omega) (by omega) hB hA
 rw [Ahz hl] at q
 exact q
theorem RevTo.zero {l0:List Keyed}:RevTo l0 l0 0:=⟨fun k=>by simp,rfl⟩
section
variable {prog:Program} {w:World} {A:Around} {E:Value->Shared->Prop} {s:Shared} {z:Array Keyed}
theorem Xq {st:SortSt} (b:SBase z st):(arrOf st).toList.length = z.size:=by rw [Array.length_toList]; exact b.size
theorem Aex {st:SortSt} {n ok:Nat} {R:Bool->SortSt->Prop} (hz:IntKeys z) (hn:n <= z.size) (ho:ok <= n) (b:SBase z st) (so:SortedTo (arrOf st) ok) (sb:Stb z.toList (arrOf st).toList)
  (fin:∀ st',SBase z st'->SortedTo (arrOf st') n->Stb z.toList (arrOf st').toList->R true st'):wpS (model prog w) A E s (binarySort' 0 n ok) R st:=by
 rw [binarySort'_eq]
 simp only [Nat.zero_add]
 have W:∀ (k:Nat) (c:Option Bool × Unit) (t:SortSt),Prop:=fun _ _ _=>True
 refine wpS_bind (wpS_mono (wpS_forRange (I:=fun k c t=>c = (none,())/\SBase z t/\SortedTo (arrOf t) (min k n)/\Stb z.toList (arrOf t).toList) (Q:=fun c t=>c = (none,())/\SBase z t/\SortedTo (arrOf t) n/\Stb z.toList (arrOf t).toList) ?turn ?all ?go) ?out)
 case out =>
  rintro c t ⟨rfl,b1,so1,sb1⟩
  exact wpS_pure (fin t b1 so1 sb1)
 case go =>
  refine ⟨rfl,b,fun i j hij hj=>?_,sb⟩
  by_cases q:ok = 0
  ·have:i = j:=by omega
   rw [this]; exact Int.le_refl _
  ·exact so i j hij (by omega)
 case all =>
  rintro c t ⟨q,b1,so1,sb1⟩
  rw [show min (max (max ok 1) n) n = n by omega] at so1
  exact ⟨q,b1,so1,sb1⟩
 case turn =>
  rintro k c t q1 q2 ⟨rfl,b1,so1,sb1⟩
  rw [show min k n = k by omega] at so1
  have kz:k < z.size:=by omega
  refine wpS_bind (wpS_mono (wpS_forRange (I:=fun x c t2=>t2 = t/\∃ lo hi,c = (none,lo,hi)/\lo <= hi/\hi <= k/\hi - lo <= k - x/\(∀ i,i < lo->K (arrOf t) i <= K (arrOf t) k)/\∀ i,hi <= i->i < k->K (arrOf t) k < K (arrOf t) i)
   (Q:=fun c t2=>t2 = t/\∃ lo hi,c = (none,lo,hi)/\lo <= k/\(∀ i,i < lo->K (arrOf t) i <= K (arrOf t) k)/\∀ i,lo <= i->i < k->K (arrOf t) k < K (arrOf t) i) ?half ?done ?first) ?move)
  case first=>exact ⟨rfl,0,k,rfl,Nat.zero_le _,Nat.le_refl _,by omega,fun i h=>absurd h (Nat.not_lt_zero _),fun i h h2=>absurd h2 (Nat.not_lt.mpr h)⟩
  case done =>
   rintro c t2 ⟨rfl,lo,hi,rfl,a1,a2,a3,a4,a5⟩
   have e:hi = lo:=by omega
   rw [e] at a2 a5 ⊢
   exact ⟨rfl,lo,lo,rfl,a2,a4,a5⟩
  case half =>
   rintro x c t2 _ xk ⟨rfl,lo,hi,rfl,a1,a2,a3,a4,a5⟩
   dsimp only
   by_cases ge:lo >= hi
   ·rw [if_pos ge]
    have e:hi = lo:=by omega
    rw [e] at a2 a5 ⊢
    exact wpS_pure ⟨rfl,lo,lo,rfl,a2,a4,a5⟩
   ·rw [if_neg ge]
    refine wpS_bind (wpS_ltK b1 hz kz (by omega) ?_)
    by_cases ls:K (arrOf t2) k < K (arrOf t2) ((lo + hi) / 2)
    ·simp only [ls,decide_true,if_true]
     exact wpS_pure ⟨rfl,lo,(lo + hi) / 2,rfl,by omega,by omega,by omega,a4,fun i h1 h2=>Int.lt_of_lt_of_le ls (so1 _ _ h1 h2)⟩
    ·simp only [ls,decide_false,Bool.false_eq_true,if_false]
     exact wpS_pure ⟨rfl,(lo + hi) / 2 + 1,hi,rfl,by omega,by omega,by omega,fun i h1=>Int.le_trans (so1 i ((lo + hi) / 2) (by omega) (by omega)) (Int.not_lt.mp ls),a5⟩
  case move =>
   rintro c t2 ⟨rfl,lo,hi,rfl,a2,a4,a5⟩
   show wpS _ _ _ _ (do moveDown' k lo; pure (ForInStep.yield (none,()))) _ _
   rw [moveDown'_eq]
   have ks:k < (arrOf t2).size:=by rw [b1.size]; exact kz
   refine wpS_bind (wpS_modify (wpS_pure ⟨rfl,b1.setArr (bubble_perm _ _ _),?_,?_⟩))
   ·rw [show min (k + 1) n = k + 1 by omega]
    intro i j ij jk
    show K (bubble (arrOf t2) k (k - lo)) i <= K (bubble (arrOf t2) k (k - lo)) j
    rw [K_bubble ks (by omega),K_bubble ks (by omega),show k - (k - lo) = lo by omega]
    repeat' split
    all_goals first | (exfalso; omega) | exact Int.le_refl _ | exact a4 _ (by omega) | exact Int.le_of_lt (a5 _ (by omega) (by omega)) | exact so1 _ _ (by omega) (by omega)
   ·show Stb z.toList (bubble (arrOf t2) k (k - lo)).toList
    obtain ⟨xs,ys,zs,e1,e2,e3,e4⟩:=AiX (Array.getElem?_eq_getElem ks) a2
    intro κ
    rw [e4,AgQ,<- e1]
    ·exact sb1 κ
    ·intro p hp
     have hq:p ∈ ((arrOf t2).toList.drop lo).take (k - lo):=by
      rw [e1,List.drop_left' e2,List.take_left' e3]; exact hp
     obtain ⟨i,i1,i2,i3,i4⟩:=We hq
     have q:=a5 i i1 (by omega)
     rw [<- i4,<- K_eq ks]
     omega
theorem Zp {st:SortSt} {n nrem:Nat} {R:Option Nat->SortSt->Prop} (hz:IntKeys z) (hn:nrem <= z.size) (h1:1 <= n) (h2:n <= nrem) (b:SBase z st) (ni:NonInc (arrOf st) n) (rv:RevTo z.toList (arrOf st).toList n)
  (fin:∀ m st',SBase z st'->1 <= m->m <= nrem->SortedTo (arrOf st') m->Stb z.toList (arrOf st').toList->R (some m) st'):wpS (model prog w) A E s (tail3 n nrem) R st:=by
 unfold tail3
 have sz:n <= (arrOf st).size:=by rw [b.size]; omega
 refine wpS_bind (wpS_reverse ?_)
 have b1:SBase z (setArr st (mirror (arrOf st) 0 n ((n - 0) / 2))):=b.setArr (mirror_perm _ _ _ _)
 have sb1:Stb z.toList (mirror (arrOf st) 0 n ((n - 0) / 2)).toList:=by
  rw [Aaf (Nat.zero_le _) sz]
  exact Stb.of_rev rv
 refine wpS_bind (wpS_ascLoop hz hn h1 h2 b1 (fun i j ij jn=>?_) fun m m1 m2 so _=>wpS_pure (fin m _ b1 (by omega) m2 so sb1))
 show K (mirror (arrOf st) 0 n ((n - 0) / 2)) i <= K (mirror (arrOf st) 0 n ((n - 0) / 2)) j
 rw [K_mirror sz,K_mirror sz,if_pos (by omega),if_pos (by omega)]
 exact ni _ _ (by omega) (by omega)
theorem Xb {st:SortSt} {x q:Nat} (b:SBase z st) (hx:x <= z.size) (hq:q + 1 <= x) (eq:∀ i,x - (q + 1) <= i->i < x->K (arrOf st) i = K (arrOf st) (x - 1)) (gt:∀ i,i < x - (q + 1)->K (arrOf st) (x - 1) < K (arrOf st) i)
  (rv:RevTo z.toList (arrOf st).toList (x - (q + 1))):RevTo z.toList (mirror (arrOf st) (x - (q + 1)) x ((x - (x - (q + 1))) / 2)).toList x:=by
 have sz:x <= (arrOf st).size:=by rw [b.size]; exact hx
 rw [Aaf (by omega) sz]
 refine rv.step (κ:=K (arrOf st) (x - 1)) (by omega) (by rw [Xq b]; exact hx) (fun p hp=>?_) fun p hp=>?_
 ·obtain ⟨i,i1,i2,i3,i4⟩:=We hp
  rw [<- i4]; exact eq i i1 (by omega)
 ·obtain ⟨i,i1,i2,i3,i4⟩:=We (c:=0) (m:=x - (q + 1)) hp
  have:=gt i (by omega)
  rw [<- i4]; omega
theorem Rn {st:SortSt} {x:Nat} (b:SBase z st) (hx:x <= z.size) (hq:1 <= x) (gt:∀ i,i < x - 1->K (arrOf st) (x - 1) < K (arrOf st) i) (rv:RevTo z.toList (arrOf st).toList (x - 1)):RevTo z.toList (arrOf st).toList x:=by
 obtain ⟨y,rfl⟩:∃ y,x = y + 1:=⟨x - 1,by omega⟩
 rw [Nat.add_sub_cancel] at gt rv
 refine rv.one (κ:=K (arrOf st) y) (by rw [Xq b]; omega) (fun p hp=>?_) fun p hp=>?_
 ·obtain ⟨i,i1,i2,i3,i4⟩:=We hp
  rw [<- i4]; congr 1; omega
 ·obtain ⟨i,i1,i2,i3,i4⟩:=We (c:=0) (m:=y) hp
  have:=gt i (by omega)
  rw [<- i4]; omega
theorem Ae2 {st:SortSt} {n nrem:Nat} {R:DescSt->SortSt->Prop} (hz:IntKeys z) (hn:nrem <= z.size) (h1:1 <= n) (h2:n <= nrem) (b:SBase z st) (ni:NonInc (arrOf st) n) (gt0:∀ i,i < n - 1->K (arrOf st) (n - 1) < K (arrOf st) i) (rv:RevTo z.toList (arrOf st).toList (n - 1))
  (fin:∀ m q st',SBase z st'->n <= m->m <= nrem->NonInc (arrOf st') m->q + 1 <= m->(∀ i,m - (q + 1) <= i->i < m->K (arrOf st') i = K (arrOf st') (m - 1))->(∀ i,i < m - (q + 1)->K (arrOf st') (m - 1) < K (arrOf st') i) ->
   RevTo z.toList (arrOf st').toList (m - (q + 1))->R (none,m,q) st'):wpS (model prog w) A E s (descLoop n nrem) R st:=by
 unfold descLoop
 refine wpS_forRange (I:=fun x c t=>∃ q,c = (none,x,q)/\SBase z t/\NonInc (arrOf t) x/\q + 1 <= x/\(∀ i,x - (q + 1) <= i->i < x->K (arrOf t) i = K (arrOf t) (x - 1))/\(∀ i,i < x - (q + 1)->K (arrOf t) (x - 1) < K (arrOf t) i)/\RevTo z.toList (arrOf t).toList (x - (q + 1))) ?turn ?all
  ⟨0,rfl,b,ni,by omega,fun i i1 i2=>by rw [show i = n - 1 by omega],gt0,rv⟩
 case all =>
  rintro c t ⟨q,rfl,b1,ni1,q1,eq1,gt1,rv1⟩
  rw [show max n nrem = nrem by omega] at ni1 q1 eq1 gt1 rv1 ⊢
  exact fin nrem q t b1 h2 (Nat.le_refl _) ni1 q1 eq1 gt1 rv1
 case turn =>
  rintro x c t nx xn ⟨q,rfl,b1,ni1,q1,eq1,gt1,rv1⟩
  dsimp only
  have sz:x <= (arrOf t).size:=by rw [b1.size]; omega
  refine wpS_bind (wpS_ltK b1 hz (by omega) (by omega) ?_)
  by_cases ls:K (arrOf t) x < K (arrOf t) (x - 1)
  ·simp only [ls,decide_true,if_true]
   have all:∀ i,i < x->K (arrOf t) x < K (arrOf t) i:=fun i hi=>Int.lt_of_lt_of_le ls (ni1 i (x - 1) (by omega) (by omega))
   have nx1:∀ y:Array Keyed,(∀ k,K y k = K (arrOf t) k)->NonInc y (x + 1):=fun y hy i j ij jx=>by
    rw [hy,hy]
    by_cases e:j < x
    ·exact ni1 i j ij e
    ·rw [show j = x by omega]
     by_cases e2:i = x
     ·rw [e2]; exact Int.le_refl _
     ·exact Int.le_of_lt (all i (by omega))
   by_cases pos:q > 0
   ·rw [if_pos pos]
    have hK:=K_mirror_equal sz eq1
    refine wpS_bind (wpS_reverse (wpS_pure ⟨0,rfl,b1.setArr (mirror_perm _ _ _ _),nx1 _ hK,by omega,fun i i1 i2=>by rw [show i = x + 1 - 1 by omega],fun i hi=>?_,?_⟩))
    ·show K (mirror (arrOf t) _ _ _) _ < K (mirror (arrOf t) _ _ _) _
     rw [hK,hK]; exact all i (by omega)
    ·exact Xb b1 (by omega) q1 eq1 gt1 rv1
   ·rw [if_neg pos]
    have q0:q = 0:=by omega
    subst q0
    exact wpS_pure ⟨0,rfl,b1,nx1 _ (fun _=>rfl),by omega,fun i i1 i2=>by rw [show i = x + 1 - 1 by omega],fun i hi=>all i (by omega),Rn b1 (by omega) q1 gt1 rv1⟩
  ·simp only [ls,decide_false,Bool.false_eq_true,if_false]
   refine wpS_bind (wpS_ltK b1 hz (by omega) (by omega) ?_)
   by_cases lg:K (arrOf t) (x - 1) < K (arrOf t) x
   ·simp only [lg,decide_true,if_true]
    exact wpS_pure (fin x q t b1 nx (by omega) ni1 q1 eq1 gt1 rv1)
   ·simp only [lg,decide_false,Bool.false_eq_true,if_false]
    have ex:K (arrOf t) x = K (arrOf t) (x - 1):=by omega
    refine wpS_pure ⟨q + 1,rfl,b1,fun i j ij jx=>?_,by omega,fun i i1 i2=>?_,fun i hi=>?_,?_⟩
    ·by_cases e:j < x
     ·exact ni1 i j ij e
     ·rw [show j = x by omega]
      by_cases e2:i = x
      ·rw [e2]; exact Int.le_refl _
      ·rw [ex]; exact ni1 i (x - 1) (by omega) (by omega)
    ·rw [Nat.add_sub_cancel]
     by_cases e:i = x
     ·rw [e]
     ·rw [ex]; exact eq1 i (by omega) (by omega)
    ·rw [Nat.add_sub_cancel,ex]; exact gt1 i (by omega)
    ·rw [show x + 1 - (q + 1 + 1) = x - (q + 1) by omega]; exact rv1
theorem Zc {st:SortSt} {n nrem:Nat} {R:Option Nat->SortSt->Prop} (hz:IntKeys z) (hn:nrem <= z.size) (h2:n + 1 <= nrem) (b:SBase z st) (ni:NonInc (arrOf st) (n + 1)) (gt0:∀ i,i < n->K (arrOf st) n < K (arrOf st) i) (rv:RevTo z.toList (arrOf st).toList n)
  (fin:∀ m st',SBase z st'->1 <= m->m <= nrem->SortedTo (arrOf st') m->Stb z.toList (arrOf st').toList->R (some m) st'):wpS (model prog w) A E s (descPart n nrem) R st:=by
 unfold descPart
 refine wpS_bind (wpS_lift (wpAny_rule ⟨rfl,?_⟩))
 refine wpS_bind (Ae2 hz hn (by omega) h2 b ni (by rw [Nat.add_sub_cancel]; exact gt0) (by rw [Nat.add_sub_cancel]; exact rv) fun m q t b1 m1 m2 ni1 q1 eq1 gt1 rv1=>?_)
 dsimp only
 have sz:m <= (arrOf t).size:=by rw [b1.size]; omega
 by_cases pos:q > 0
 ·rw [if_pos pos]
  have hK:=K_mirror_equal sz eq1
  refine wpS_bind (wpS_reverse (Zp hz hn (by omega) m2 (b1.setArr (mirror_perm _ _ _ _)) (fun i j ij jm=>?_) (Xb b1 (by omega) q1 eq1 gt1 rv1) fin))
  show K (mirror (arrOf t) _ _ _) j <= K (mirror (arrOf t) _ _ _) i
  rw [hK,hK]
  exact ni1 i j ij jm
 ·rw [if_neg pos]
  have q0:q = 0:=by omega
  subst q0
  exact Zp hz hn (by omega) m2 b1 ni1 (Rn b1 (by omega) q1 gt1 rv1) fin
theorem Adt {st:SortSt} {nrem:Nat} {R:Option Nat->SortSt->Prop} (hz:IntKeys z) (hn:nrem <= z.size) (h1:1 <= nrem) (b:SBase z st) (e0:arrOf st = z)
  (fin:∀ m st',SBase z st'->1 <= m->m <= nrem->SortedTo (arrOf st') m->Stb z.toList (arrOf st').toList->R (some m) st'):wpS (model prog w) A E s (countRun' 0 nrem) R st:=by
 rw [countRun0_eq]
 refine wpS_bind (wpS_ascLoop hz hn (Nat.le_refl 1) h1 b (fun i j ij j1=>by rw [show i = j by omega]; exact Int.le_refl _) fun n n1 n2 so or=>?_)
 dsimp only
 have sb0:Stb z.toList (arrOf st).toList:=fun k=>by rw [e0]
 by_cases e:n = nrem
 ·rw [if_pos (by simpa using e)]
  exact wpS_pure (fin n st b n1 n2 so sb0)
 ·rw [if_neg (by simpa using e)]
  have lt:K (arrOf st) n < K (arrOf st) (n - 1):=or.resolve_left e
  have rv0:RevTo z.toList (arrOf st).toList 0:=by rw [e0]; exact RevTo.zero
  by_cases big:n > 1
  ·rw [if_pos big]
   refine wpS_bind (wpS_ltK b hz (by omega) (by omega) ?_)
   by_cases rose:K (arrOf st) 0 < K (arrOf st) (n - 1)
   ·simp only [rose,decide_true,if_true]
    exact wpS_pure (fin n st b n1 n2 so sb0)
   ·simp only [rose,decide_false,Bool.false_eq_true,if_false]
    have sz:n <= (arrOf st).size:=by rw [b.size]; omega
    have eq1:∀ k,0 <= k->k < n->K (arrOf st) k = K (arrOf st) (n - 1):=fun k _ hk=>by
     have x1:=so 0 k (by omega) hk
     have x2:=so k (n - 1) (by omega) (by omega)
     omega
    have hK:=K_mirror_equal sz eq1
    have rv1:RevTo z.toList (mirror (arrOf st) 0 n ((n - 0) / 2)).toList n:=by
     rw [Aaf (Nat.zero_le _) sz]
     refine rv0.step (κ:=K (arrOf st) (n - 1)) (Nat.zero_le _) (by rw [Xq b]; omega) (fun p hp=>?_) fun p hp=>absurd hp (by simp)
     obtain ⟨i,i1,i2,i3,i4⟩:=We hp
     rw [<- i4]; exact eq1 i i1 (by omega)
    refine wpS_bind (wpS_reverse (Zc hz hn (by omega) (b.setArr (mirror_perm _ _ _ _)) (fun i j ij jn=>?_) (fun i hi=>?_) rv1 fin))
    ·show K (mirror (arrOf st) _ _ _) j <= K (mirror (arrOf st) _ _ _) i
     rw [hK,hK]
     by_cases jn2:j < n
     ·rw [eq1 i (by omega) (by omega),eq1 j (by omega) jn2]; exact Int.le_refl _
     ·rw [show j = n by omega]
      by_cases i2:i = n
      ·rw [i2]; exact Int.le_refl _
      ·rw [eq1 i (by omega) (by omega)]; exact Int.le_of_lt lt
    ·show K (mirror (arrOf st) _ _ _) n < K (mirror (arrOf st) _ _ _) i
     rw [hK,hK,eq1 i (by omega) hi]; exact lt
  ·rw [if_neg big]
   have n0:n = 1:=by omega
   subst n0
   have lt':K (arrOf st) 1 < K (arrOf st) 0:=lt
   refine Zc hz hn (by omega) b (fun i j ij j2=>?_) (fun i hi=>?_) (Rn b (by omega) (Nat.le_refl 1) (fun i hi=>absurd hi (by omega)) rv0) fin
   ·by_cases i2:i = j
    ·rw [i2]; exact Int.le_refl _
    ·rw [show i = 0 by omega,show j = 1 by omega]; exact Int.le_of_lt lt'
   ·rw [show i = 0 by omega]; exact lt'
def Ae8 (z:Array Keyed) (t:SortSt):Prop:=(arrOf t).Perm z/\failedOf t = none/\SortedTo (arrOf t) z.size/\Stb z.toList (arrOf t).toList/\pendingOf t = #[(0,z.size,0)]
theorem AeO {st:SortSt} {R:Unit->SortSt->Prop} (hz:IntKeys z) (b:SBase z st) (e0:arrOf st = z) (h2:2 <= z.size) (h64:z.size < 64)
  (fin:∀ t,(arrOf t).Perm z->failedOf t = none->SortedTo (arrOf t) z.size->Stb z.toList (arrOf t).toList->R () t):wpS (model prog w) A E s sortRuns' R st:=by
 rw [sortRuns'_eq]
 refine wpS_bind (wpS_get ?_)
 dsimp only
 have mr:minRun' z.size z.size 0 = z.size:=by
  obtain ⟨f,hf⟩:∃ f,z.size = f + 1:=⟨z.size - 1,by omega⟩
  have:minRun' (f + 1) z.size 0 = z.size:=by rw [minRun'_succ,if_pos h64]; rfl
  rwa [<- hf] at this
 have close:∀ {t:SortSt},SBase z t->SortedTo (arrOf t) z.size->Stb z.toList (arrOf t).toList->Ae8 z (setPending t ((pendingOf t).push (0,z.size,0))):=fun {t} b1 so1 sb1 =>
  ⟨b1.perm,b1.failed,so1,sb1,by show (pendingOf t).push _ = _; rw [b1.pend]; rfl⟩
 simp only [b.size,mr]
 refine wpS_bind (wpS_mono (wpS_forRange (I:=fun x c t=>(x = 0/\c = (none,0)/\SBase z t/\arrOf t = z)\/(1 <= x/\c = (none,z.size)/\Ae8 z t)) (Q:=fun c t=>c = (none,z.size)/\Ae8 z t) ?turn ?all (.inl ⟨rfl,rfl,b,e0⟩)) ?out)
 case all =>
  rintro c t (⟨hx,_⟩ | ⟨_,hc,d⟩)
  ·omega
  ·exact ⟨hc,d⟩
 case turn =>
  rintro x c t _ hx (⟨rfl,rfl,b1,e1⟩ | ⟨x1,rfl,d⟩)
  ·dsimp only
   rw [if_neg (by omega)]
   simp only [Nat.sub_zero,Nat.min_self,Nat.zero_add]
   refine wpS_bind (Adt hz (Nat.le_refl _) (by omega) b1 e1 fun m t2 b2 m1 m2 so2 sb2=>?_)
   dsimp only
   by_cases lt:m < z.size
   ·rw [if_pos lt]
    refine wpS_bind (wpS_lift (wpAny_rule ⟨rfl,?_⟩))
    refine wpS_bind (Aex hz (Nat.le_refl _) m2 b2 so2 sb2 fun t3 b3 so3 sb3=>?_)
    simp only [Bool.not_true,Bool.false_eq_true,if_false]
    refine wpS_bind (wpS_get ?_)
    rw [show (pendingOf t3).back? = none by rw [b3.pend]; rfl]
    dsimp only
    exact wpS_bind (wpS_modify (wpS_pure (.inr ⟨by omega,rfl,close b3 so3 sb3⟩)))
   ·rw [if_neg lt]
    have em:m = z.size:=by omega
    rw [em] at so2 ⊢
    refine wpS_bind (wpS_get ?_)
    rw [show (pendingOf t2).back? = none by rw [b2.pend]; rfl]
    dsimp only
    exact wpS_bind (wpS_modify (wpS_pure (.inr ⟨by omega,rfl,close b2 so2 sb2⟩)))
  ·dsimp only
   rw [if_pos (Nat.le_refl _)]
   exact wpS_pure ⟨rfl,d⟩
 case out =>
  rintro c t ⟨rfl,d⟩
  dsimp only
  refine wpS_bind (wpS_mono (wpS_forRange (I:=fun _ c t2=>t2 = t/\c = (none,())) (Q:=fun c t2=>t2 = t/\c = (none,())) ?_ (fun _ _ hh=>hh) ⟨rfl,rfl⟩) ?_)
  ·rintro x c t2 _ _ ⟨rfl,rfl⟩
   refine wpS_bind (wpS_get ?_)
   rw [if_pos (by rw [d.2.2.2.2]; exact Nat.le_refl 1)]
   exact wpS_pure ⟨rfl,rfl⟩
  ·rintro c t2 ⟨rfl,rfl⟩
   exact wpS_pure (fin _ d.1 d.2.1 d.2.2.1 d.2.2.2.1)
end
end L2
namespace L2
open PySem PySem.Spec PyProof.Rows
structure Rl (g:Int->Int) (ns ns':List Int):Prop where
 up:ns'.Pairwise fun x y=>g x <= g y
 fl:∀ r,ns'.filter (fun x=>decide (g x = r)) = ns.filter fun x=>decide (g x = r)
section
variable {X:Cx} {pins:List (Addr × Obj)} {σ:St} {H:Hp} {s:Shared}
theorem Inv.nwOf (I:Inv X pins σ H s) {b:Addr} (hb:s.heap.objs.size <= b):Nw X pins b :=
 have f:=I.fpOk hb (I.hok.fresh hb)
 ⟨Heap.get?_none_of_le (Nat.le_trans I.sz hb),f.2.1,f.2.2.2.2.1,f.2.2.2.2.2⟩
theorem Inv.adopt (I:Inv X pins σ H s) {x:Addr} {o:HO} (nw:Nw X pins x) (hx:H x = none) (ok:ObjOk X.prog X.w (upd H x o) s.heap x o):Inv X pins σ (upd H x o) s:=by
 have ne:∀ b u,H b = some u->b ≠ x:=fun b u e z=>by rw [z,hx] at e; cases e
 refine ⟨I.ok,I.os,I.bare,⟨I.base.keep,I.base.slot,fun b o e n z=>?_,I.base.there,fun b xs e=>?_,fun b o u e=>?_,fun b ps e=>?_⟩,I.loc,I.cell,?_,fun y c l=>?_,fun p hp=>?_,fun b u e=>?_,I.len⟩
 ·rw [Bg (fun w=>by rw [w,nw.1] at e; cases e)]
  exact I.base.free b o e n z
 ·have z:=I.base.tups b xs e
  rw [Bg (ne _ _ z)]; exact z
 ·have z:=I.base.frzs b o u e
  rw [Bg (ne _ _ z)]; exact z
 ·obtain ⟨more,z⟩:=I.base.tbls b ps e
  exact ⟨more,by rw [Bg (ne _ _ z)]; exact z⟩
 ·rw [Bg nw.2.1.symm]; exact I.free
 ·rw [Bg (nw.2.2.1 y c l)]; exact I.freeC y c l
 ·obtain ⟨p1,p2,p3⟩:=I.pin p hp
  exact ⟨p1,by rw [Bg (nw.2.2.2 p hp)]; exact p2,p3⟩
 ·by_cases z:b = x
  ·subst z
   rw [Bl] at e
   cases e
   exact ok
  ·rw [Bg z] at e
   exact (I.hok b u e).stay (fun c v _ q'=>q') (fun c q'=>by rw [Bg (ne _ _ q')]; exact q') fun c xs q'=>by rw [Bg (ne _ _ q')]; exact q'
theorem Inv.wrote (I:Inv X pins σ H s) {b:Addr} {h':Heap} (nw:Nw X pins b) (hx:H b = none) (hs:X.s₀.heap.objs.size <= b) (k:∀ c o,c ≠ b->s.heap.get? c = some o->h'.get? c = some o):Inv X pins σ H { s with heap:=h' } :=
 I.turned (t':=s.toks) k hx nw.2.1 (.inr hs) nw.2.2.1 nw.2.2.2
end
theorem AjE {g:Int->Int} {ns:List Int} {vs:List Value} {keys:Array Value} (hv:IntsAre vs ns) (hk:IntsAre keys.toList (ns.map g)) {xs:Array Keyed} (hp:xs.Perm (keys.zip vs.toArray)) (hs:SortedTo xs xs.size) (hb:Stb (keys.zip vs.toArray).toList xs.toList) :
  ∃ ns',IntsAre (xs.map (·.2)).toList ns'/\Rl g ns ns'/\ns'.length = ns.length:=by
 have hl:xs.toList.Perm (keys.toList.zip vs):=by rw [<- ksk_zip]; exact Array.perm_iff_toList_perm.mp hp
 rw [ksk_zip] at hb
 have rel:∀ p ∈ keys.toList.zip vs,numOf p.1 = g (numOf p.2)/\p.2 ∈ vs:=by
  intro p hp
  obtain ⟨i,hi,e⟩:=List.mem_iff_getElem.mp hp
  have l1:=hk.length
  have l2:=hv.length
  rw [List.length_zip] at hi
  rw [List.getElem_zip] at e
  have e1:numOf keys.toList[i] = g (numOf vs[i]):=by
   have q1:(keys.toList.map numOf)[i]? = (ns.map g)[i]?:=by rw [hk.nums]
   have q2:(vs.map numOf)[i]? = ns[i]?:=by rw [hv.nums]
   rw [List.getElem?_map,List.getElem?_map,List.getElem?_eq_getElem (by omega),<- q2,List.getElem?_map,List.getElem?_eq_getElem (by omega)] at q1
   exact Option.some.inj q1
  subst e
  exact ⟨e1,List.getElem_mem ..⟩
 have relx:∀ p ∈ xs.toList,numOf p.1 = g (numOf p.2)/\p.2 ∈ vs:=fun p hp=>rel p (hl.mem_iff.mp hp)
 have ev:(keys.toList.zip vs).map (fun p:Keyed=>numOf p.2) = ns:=by
  have l1:=hk.length
  have l2:=hv.length
  rw [List.length_map] at l1
  have:(keys.toList.zip vs).map (fun p:Keyed=>numOf p.2) = ((keys.toList.zip vs).map Prod.snd).map numOf:=by rw [List.map_map]; rfl
  rw [this,List.map_snd_zip (by omega),hv.nums]
 have mf:∀ (l:List Keyed) (r:Int),(∀ p ∈ l,numOf p.1 = g (numOf p.2))->(l.map fun p:Keyed=>numOf p.2).filter (fun x=>decide (g x = r)) = (flt r l).map fun p:Keyed=>numOf p.2:=by
  intro l r h
  induction l with
  | nil=>rfl
  | cons p l ih =>
   have e:=h p List.mem_cons_self
   rw [List.map_cons,List.filter_cons,ih fun q hq=>h q (List.mem_cons_of_mem _ hq)]
   show _ = List.map _ (List.filter _ (p :: l))
   rw [List.filter_cons,e]
   by_cases d:g (numOf p.2) = r <;> simp [d]
 refine ⟨xs.toList.map fun p:Keyed=>numOf p.2,?_,⟨?_,fun r=>?_⟩,?_⟩
 ·rw [Array.toList_map]
  have q:=intsAre_map (xs.toList.map (·.2)) fun v hv'=>by
   obtain ⟨p,hp',rfl⟩:=List.mem_map.mp hv'
   exact hv.all _ (relx p hp').2
  rwa [List.map_map] at q
 ·rw [List.pairwise_map,List.pairwise_iff_getElem]
  intro i j hi hj ij
  have hi':i < xs.size:=by simpa using hi
  have hj':j < xs.size:=by simpa using hj
  have q:=hs i j (Nat.le_of_lt ij) hj'
  rw [K_eq hi',K_eq hj'] at q
  have e1:=(relx _ (List.getElem_mem hi)).1
  have e2:=(relx _ (List.getElem_mem hj)).1
  rw [<- e1,<- e2]
  simpa using q
 ·rw [mf _ r fun p hp=>(relx p hp).1,hb r,<- mf _ r fun p hp=>(rel p hp).1,ev]
 ·rw [List.length_map,hl.length_eq,<- ev,List.length_map]
section
variable {X:Cx} {CX:CXT} {pins:List (Addr × Obj)} {σ:St} {H:Hp} {s:Shared} {k:Nat} {f:Addr} {fd:FuncData} {ps:List Str} {sp:Sp}
theorem Aeq {g:Int->Int} {ns:List Int} {vs:List Value} {A:Around} {E:Value->Shared->Prop} {P:PySem.Fin->Shared->Prop} {D kS:Addr} {keys:Array Value} {e e1:Nat} (I:Inv X pins σ H s) (nD:Nw X pins D) (nK:Nw X pins kS) (hD:H D = none) (hK:H kS = none) (sD:X.s₀.heap.objs.size <= D) (sK:X.s₀.heap.objs.size <= kS) (ne:kS ≠ D)
  (gK:s.heap.get? kS = some (seqObj "list" keys e)) (gD:s.heap.get? D = some (seqObj "list" #[] e1)) (hv:IntsAre vs ns) (hk:IntsAre keys.toList (ns.map g)) (h64:ns.length < 64)
  (fin:∀ s' ns',Inv X pins σ (upd H D (.lst (ns'.map V.int))) s'->Rl g ns ns'->P (.done (.ret .none)) s'):wpAny (model X.prog X.w) A (ksk_end D false vs.toArray e1 (.ref kS) keys) P E s:=by
 have l2:=hv.length
 have hsz:keys.size = vs.length:=by
  have h1:=hk.length
  rw [Array.length_toList,List.length_map] at h1
  omega
 have hzs:(keys.zip vs.toArray).size = vs.length:=by rw [Array.size_zip,hsz,List.size_toArray,Nat.min_self]
 have close:∀ st:SortSt,(arrOf st).Perm (keys.zip vs.toArray)->failedOf st = none->SortedTo (arrOf st) (arrOf st).size->Stb (keys.zip vs.toArray).toList (arrOf st).toList->wpAny (model X.prog X.w) A (ksk_tail D false e1 (.ref kS) st) P E s:=by
  intro st hp hf hs hb
  have hout:((arrOf st).map (·.2)).size = vs.length:=by rw [Array.size_map,hp.size_eq,hzs]
  have gD1:(s.heap.update kS (Obj.mapSeq fun _=>(#[]:Array Value))).get? D = some (seqObj "list" #[] e1):=by rw [Heap.get?_update_ne _ _ _ _ ne.symm]; exact gD
  obtain ⟨c2,hc2⟩:∃ c2,((s.heap.update kS (Obj.mapSeq fun _=>(#[]:Array Value))).update D (Obj.mapSeq fun _=>(arrOf st).map (·.2))).get? D = some (seqObj "list" ((arrOf st).map (·.2)) c2):=⟨_,get?_update_seq gD1 fun _=>(arrOf st).map (·.2)⟩
  unfold ksk_tail
  dsimp only
  refine wpAny_bind (listUpdate_at gK rfl ?_ (by rw [sizeLine_eq]; omega) (Nat.zero_le _))
  refine wpAny_bind (wpAny_letGo (wpAny_bind (seqEpoch_at gD1 rfl ?_)))
  refine wpAny_bind (listUpdate_at gD1 rfl ?_ (Nat.zero_le _) (Nat.le_trans (Nat.le_of_eq hout) (by rw [sizeLine_eq]; omega)))
  rw [hf]
  simp only [bne_self_eq_false,Bool.false_eq_true,if_false]
  refine wpAny_pure ?_
  obtain ⟨ns',i1,i2,i3⟩:=AjE hv hk hp hs hb
  refine fin _ ns' ?_ i2
  have I1:Inv X pins σ H { s with heap:=s.heap.update kS (Obj.mapSeq fun _=>(#[]:Array Value)) }:=I.wrote nK hK sK fun c o hc e=>by rw [Heap.get?_update_ne _ _ _ _ hc]; exact e
  have I2:Inv X pins σ H { s with heap:=(s.heap.update kS (Obj.mapSeq fun _=>(#[]:Array Value))).update D (Obj.mapSeq fun _=>(arrOf st).map (·.2)) }:=I1.wrote nD hD sD fun c o hc e=>by rw [Heap.get?_update_ne _ _ _ _ hc]; exact e
  exact I2.adopt nD hD ⟨by rw [List.length_map,i3,sizeLine_eq]; omega,_,c2,Tg i1,by rw [Array.toArray_toList]; exact hc2⟩
 unfold ksk_end
 dsimp only
 simp only [Bool.false_eq_true,if_false]
 by_cases h2:vs.toArray.size < 2
 ·rw [if_pos h2,if_pos h2]
  refine wpAny_bind (wpAny_pure ?_)
  rw [StateT.run_pure]
  refine wpAny_bind (wpAny_pure ?_)
  refine close (SortSt.mk' general' (keys.zip vs.toArray) #[] 7 none) (Array.Perm.refl _) rfl (fun i j ij hj=>?_) fun _=>rfl
  have hj2:j < (keys.zip vs.toArray).size:=hj
  rw [hzs] at hj2
  rw [List.size_toArray] at h2
  rw [show i = j by omega]
  exact Int.le_refl _
 ·rw [if_neg h2,if_neg h2]
  rw [List.size_toArray] at h2
  rw [ksk_kind hk (by rw [hsz]; omega)]
  refine wpAny_bind (wpAny_pure ?_)
  refine wpAny_bind (wpAny_mono (AeO (z:=keys.zip vs.toArray) (st:=SortSt.mk' oneType' (keys.zip vs.toArray) #[] 7 none)
   (R:=fun _ t=>(arrOf t).Perm (keys.zip vs.toArray)/\failedOf t = none/\SortedTo (arrOf t) (keys.zip vs.toArray).size/\Stb (keys.zip vs.toArray).toList (arrOf t).toList)
   (ksk_intKeys hk) ⟨Array.Perm.refl _,rfl,rfl,rfl⟩ rfl (by rw [hzs]; omega) (by rw [hzs]; omega) fun t a1 a2 a3 a4=>⟨a1,a2,a3,a4⟩) ?_ fun _ _ e=>e)
  rintro ⟨⟨⟩,t⟩ s' ⟨rfl,hp,hf,hs,hb⟩
  exact close t hp hf (by rw [hp.size_eq]; exact hs) hb
theorem AcI {g:Int->Int} {ns:List Int} {vs:List Value} {A:Around} {E:Value->Shared->Prop} {P:PySem.Fin->Shared->Prop} {D q a:Addr} {n:Nat} (F:FnOk X.prog X.w X.K X.mg X.base CX k f fd ps sp) (hr:Room k A) (hA:∀ {s' H'},Env0 X.prog X.w X.K X.mg X.base X.A X.stack s' H'->Env0 X.prog X.w X.K X.mg X.base A X.stack s' H')
  (hb:Binds X.K fd ps []) (hno:∀ outer H s e s',CX outer H s E0 e s'->False) (I:Inv X pins σ H s) (nD:Nw X pins D) (hD:H D = none) (sD:X.s₀.heap.objs.size <= D) (fD:D ∉ X.fs) (gD:s.heap.get? D = some (seqObj "list" vs.toArray n)) (hv:IntsAre vs ns) (h64:ns.length < 64) (hm:H q = some (.met f a))
  (key:∀ n ∈ ns,sp [.ref a,.int n] H (fun v H'=>v = .int (g n)/\H' = H) E0)
  (fin:∀ s' ns',Inv X pins σ (upd H D (.lst (ns'.map V.int))) s'->Rl g ns ns'->P (.done (.ret .none)) s'):wpAny (model X.prog X.w) A (ksk_tree D (.ref q) false) P E s:=by
 have l2:=hv.length
 have ltD:=Heap.lt_size gD
 obtain ⟨e1,gD1⟩:∃ e1,(s.heap.update D (Obj.mapSeq fun _=>(#[]:Array Value))).get? D = some (seqObj "list" #[] e1):=⟨_,get?_update_seq gD fun _=>#[]⟩
 have I1:Inv X pins σ H { s with heap:=s.heap.update D (Obj.mapSeq fun _=>(#[]:Array Value)) }:=I.wrote nD hD sD fun c o hc e=>by rw [Heap.get?_update_ne _ _ _ _ hc]; exact e
 unfold ksk_tree
 refine wpAny_bind (listItems_at gD rfl ?_)
 refine wpAny_bind (listUpdate_at gD rfl ?_ (by rw [List.size_toArray,sizeLine_eq]; omega) (Nat.zero_le _))
 refine wpAny_bind (seqEpoch_at gD1 rfl ?_)
 refine wpAny_bind (wpAny_newTuple ?_ (by show vs.length <= _; rw [sizeLine_eq]; omega))
 have I2:Inv X pins σ H { s with heap:=(s.heap.update D (Obj.mapSeq fun _=>(#[]:Array Value))).push (seqObj "tuple" vs.toArray 0) }:=I1.kept (t':=s.toks) fun b o e=>Heap.get?_push_of_some _ e
 have gD2:((s.heap.update D (Obj.mapSeq fun _=>(#[]:Array Value))).push (seqObj "tuple" vs.toArray 0)).get? D = some (seqObj "list" #[] e1):=Heap.get?_push_of_some _ gD1
 refine wpAny_bind (wpAny_newList ?_ (Nat.zero_le _))
 show wpAny _ _ (holding _ (ksk_rest D (.ref q) false vs.toArray e1 (.ref _))) _ _ { s with heap:=((s.heap.update D (Obj.mapSeq fun _=>(#[]:Array Value))).push (seqObj "tuple" vs.toArray 0)).push (seqObj "list" #[] 0) }
 generalize ((s.heap.update D (Obj.mapSeq fun _=>(#[]:Array Value))).push (seqObj "tuple" vs.toArray 0)) = h2 at I2 gD2 ⊢
 have I3:Inv X pins σ H { s with heap:=h2.push (seqObj "list" #[] 0) }:=I2.kept (t':=s.toks) fun b o e=>Heap.get?_push_of_some _ e
 have gD3:(h2.push (seqObj "list" #[] 0)).get? D = some (seqObj "list" #[] e1):=Heap.get?_push_of_some _ gD2
 have gK3:(h2.push (seqObj "list" #[] 0)).get? h2.objs.size = some (seqObj "list" #[] 0):=Heap.get?_push_size _ rfl
 have nK:Nw X pins h2.objs.size:=I2.nwOf (Nat.le_refl _)
 have hK:H h2.objs.size = none:=I2.hok.fresh (Nat.le_refl _)
 have sK:X.s₀.heap.objs.size <= h2.objs.size:=I2.sz
 have fK:h2.objs.size ∉ X.fs:=I2.nofs (Nat.le_refl _)
 have ne:h2.objs.size ≠ D:=Nat.ne_of_gt (Heap.lt_size gD2)
 generalize h2.objs.size = kS at nK hK sK fK ne gK3 ⊢
 refine wpAny_holding ?_
 unfold ksk_rest
 refine wpAny_bind (wpAny_rule ?_)
 first
  | rw [List.forIn_toArray]
  | (rw [<- Array.forIn_toList]; simp only [List.toList_toArray])
  | rw [<- Array.forIn_toList]
 refine wpAny_bind (ksk_fold (fun i s'=>∃ kA e,Inv X pins σ H s'/\s'.heap.get? kS = some (seqObj "list" kA e)/\s'.heap.get? D = some (seqObj "list" #[] e1)/\IntsAre kA.toList ((ns.map g).take i)) vs 0 _ ⟨#[],0,I3,gK3,gD3,by simpa using IntsAre.nil⟩ ?turn ?out)
 case turn =>
  rintro j x s' hx ⟨kA,e,J,gK,gD',ik⟩
  simp only [Nat.zero_add] at ik ⊢
  have hj:j < vs.length:=(List.getElem?_eq_some_iff.mp hx).1
  obtain ⟨m,hm'⟩:∃ m,ns[j]? = some m:=⟨_,List.getElem?_eq_getElem (by omega)⟩
  obtain ⟨t,ht⟩:=hv.get j m hm'
  rw [ht] at hx; cases hx
  have hz:kA.size <= vs.length:=by
   have h1:=ik.length
   rw [Array.length_toList,List.length_take,List.length_map] at h1
   omega
  have J':Inv X (pins ++ [(kS,seqObj "list" kA e),(D,seqObj "list" #[] e1)]) σ H s':=J.pins_of fun p hp=>by
   rcases List.mem_append.mp hp with z | z
   ·exact J.pin p (List.mem_append_right _ z)
   ·rcases List.mem_cons.mp z with rfl | z
    ·exact ⟨gK,hK,nK.2.1,fK,fun _ w=>nomatch w⟩
    ·rw [List.mem_singleton.mp z]
     exact ⟨gD',hD,nD.2.1,fD,fun _ w=>nomatch w⟩
  have gq:s'.heap.get? q = some (PySem.W.methodObj (.ref f) (.ref a)):=J.hok q _ hm
  have rvals:Vals [.ref a,.int m] ([Value.ref a,Value.int m t] ++ []):=.cons (show RelV (.ref a) (.ref a) from rfl) (.cons (show RelV (.int m) (.int m t) from ⟨t,rfl⟩) .nil)
  have hl:([Value.ref a,Value.int m t] ++ []).length = ps.length:=F.len [.ref a,.int m] H _ E0 (key m (List.mem_of_getElem? hm'))
  refine wpAny_bind (wpAny_attempt (wpAny_call (PySem.W.method_call gq (codeAny_mono (F.run A X.stack s' H ⟨[.ref a,.int m t],[]⟩ ([.ref a,.int m t] ++ []) [.ref a,.int m] _ E0 hr (hA J'.env0) (hb s' [.ref a,.int m t] J.kIn hl) rvals (key m (List.mem_of_getElem? hm'))) fun r s2 hq=>?_))))
  cases r with
  | error e=>exact (hno _ _ _ _ _ hq).elim
  | ok fl =>
   cases fl with
   | next=>exact False.elim hq
   | brk=>exact False.elim hq
   | cont=>exact False.elim hq
   | ret u =>
    obtain ⟨v,H',J2,rv,rfl,rfl⟩:=J'.after hq
    obtain ⟨t2,rfl⟩:=(show ∃ t2,u = Value.int (g m) t2 from rv)
    have gK2:s2.heap.get? kS = some (seqObj "list" kA e):=(J2.pin (kS,seqObj "list" kA e) (List.mem_append_right _ (List.mem_append_right _ List.mem_cons_self))).1
    have gD2':s2.heap.get? D = some (seqObj "list" #[] e1):=(J2.pin (D,seqObj "list" #[] e1) (List.mem_append_right _ (List.mem_append_right _ (List.mem_cons_of_mem _ List.mem_cons_self)))).1
    have J3:Inv X pins σ H' s2:=J2.unpinned
    dsimp only
    obtain ⟨c2,hc2⟩:∃ c2,(s2.heap.update kS (Obj.mapSeq (·.push (.int (g m) t2)))).get? kS = some (seqObj "list" (kA.push (.int (g m) t2)) c2):=⟨_,get?_update_seq gK2 (·.push (.int (g m) t2))⟩
    refine wpAny_bind (listUpdate_at gK2 rfl ?_ (by rw [sizeLine_eq]; omega) (Nat.le_trans (Nat.le_of_eq (Array.size_push ..)) (by rw [sizeLine_eq]; omega)))
    refine wpAny_pure ⟨rfl,kA.push (.int (g m) t2),c2,J3.wrote nK hK sK fun c o hc e=>by rw [Heap.get?_update_ne _ _ _ _ hc]; exact e,hc2,by rw [Heap.get?_update_ne _ _ _ _ ne.symm]; exact gD2',?_⟩
    have ek:(ns.map g).take (j + 1) = (ns.map g).take j ++ [g m]:=by rw [List.take_add_one,List.getElem?_map,hm']; rfl
    rw [ek,Array.toList_push]
    exact ksk_snoc ik
 case out =>
  rintro s' ⟨kA,e,J,gK,gD',ik⟩
  rw [List.take_of_length_le (by rw [List.length_map]; omega)] at ik
  refine wpAny_bind (listItems_at gK rfl ?_)
  exact Aeq J nD nK hD hK sD sK ne gK gD' hv ik h64 fin
def AdG (K:PySem.W.Frag) (sp:Sp) (f:Addr) (xs ks:List V) (H:Hp) (Q:VK):Prop:=∃ (p q a:Addr) (ns:List Int) (g:Int->Int),xs = [.ref p]/\ks = [.ref q]/\SqL K H p (ns.map V.int)/\H q = some (.met f a)/\ns.length < 64 /\
 (∀ n ∈ ns,sp [.ref a,.int n] H (fun v H'=>v = .int (g n)/\H' = H) E0)/\∀ (l:Addr) (H':Hp) (ns':List Int),H l = none->Same H H'->H' l = some (.lst (ns'.map V.int))->Rl g ns ns'->Q (.ref l) H'
theorem AbN {xs ks:List V} {us ws:List Value} {Q:VK} (F:FnOk X.prog X.w X.K X.mg X.base CX k f fd ps sp) (hr:Room (k + 2) X.A) (hb:Binds X.K fd ps []) (hno:∀ outer H s e s',CX outer H s E0 e s'->False) (I:Inv X pins σ H s) (rx:Vals xs us) (rk:Vals ks ws) (h:AdG X.K sp f xs ks H Q) :
  wpAny (model X.prog X.w) X.A (call (.builtin "sorted") us ([Str.ofString "key"].zip ws)) (EP X pins σ Q) X.xe s:=by
 obtain ⟨p,q,a,ns,g,rfl,rfl,sq,hm,h64,key,fin⟩:=h
 obtain ⟨u,rfl,ru⟩:=Ty rx
 obtain ⟨w,rfl,rw'⟩:=Ty rk
 cases ru
 cases rw'
 obtain ⟨its,r',pl,hz⟩:=I.list sq
 have hv:IntsAre its ns:=Sy r'
 have l2:=hv.length
 refine call_function_entry_kw kind_sorted plain_sorted entry_sorted (ksk_s1 _ _) ?_
 unfold Builtin.«sorted»
 refine wpAny_bind (m:=checkCount "sorted" 1 1 _) (wpAny_pure ?_)
 refine wpAny_bind (collect_list pl.isList ?_ (by rw [sizeLine_eq]; omega))
 have I1:Inv X pins σ H { s with heap:=(s.heap.push (seqObj "list" #[] 0)).update s.heap.objs.size (Obj.mapSeq (· ++ its.toArray)) }:=I.kept (t':=s.toks) fun b o e=>by
  rw [Heap.get?_update_ne _ _ _ _ (Nat.ne_of_lt (Heap.lt_size e))]; exact Heap.get?_push_of_some _ e
 refine wpAny_bind (wpAny_newList ?_ (by rw [sizeLine_eq]; omega))
 show wpAny _ _ _ _ _ { s with heap:=((s.heap.push (seqObj "list" #[] 0)).update s.heap.objs.size (Obj.mapSeq (· ++ its.toArray))).push (seqObj "list" its.toArray 0) }
 generalize (s.heap.push (seqObj "list" #[] 0)).update s.heap.objs.size (Obj.mapSeq (· ++ its.toArray)) = h1 at I1 ⊢
 have I2:Inv X pins σ H { s with heap:=h1.push (seqObj "list" its.toArray 0) }:=I1.kept (t':=s.toks) fun b o e=>Heap.get?_push_of_some _ e
 have gD:(h1.push (seqObj "list" its.toArray 0)).get? h1.objs.size = some (seqObj "list" its.toArray 0):=Heap.get?_push_size _ rfl
 have hD:H h1.objs.size = none:=I1.hok.fresh (Nat.le_refl _)
 refine wpAny_bind (wpAny_holding (wpAny_call_entry_kw slot_list_sort ⟨_,gD,rfl⟩ entry_list_sort ?_ (ksk_l1 _ _)))
 show wpAny (model X.prog X.w) X.A.in1.in1 (Builtin.«list.sort» ⟨[.ref h1.objs.size],[(Str.ofString "key",.ref q)]⟩) _ _ _
 rw [ksk_t1]
 refine AcI F hr.in1.in1 (fun e0=>e0.in1.in1) hb hno I2 (I1.nwOf (Nat.le_refl _)) hD I1.sz (I1.nofs (Nat.le_refl _)) gD hv h64 hm key fun s' ns' J sb=>⟨_,rfl,?_⟩
 exact wpAny_pure ⟨_,rfl,.ref h1.objs.size,_,J,rfl,fin _ _ ns' hD (Same.laid hD) Bl sb⟩
end
end L2
namespace L2
open PySem PySem.Spec PyProof.Rows
structure Bnd (K:PySem.W.Frag) (C:Addr) (m:Str) (f:Addr):Prop where
 at_:PySem.W.findIn K (.ref C) m = some (some (.ref f))
 fn:PySem.W.isFn K (.ref f) = true
 gg:PySem.W.specialIn K (.ref f) "__get__" = some (some (.builtin "function.__get__"))
 tk:PySem.W.takesIn K (.ref f) = some false
 cp:PySem.W.copiedNames.contains m = false
section
variable {X:Cx} {CX:CXT} {pins:List (Addr × Obj)} {σ:St} {H:Hp} {s:Shared} {k:Nat} {f C a dx:Addr} {fd:FuncData} {ps:List Str} {sp:Sp} {fs:List (Str × V)} {m x:Str} {A:Around} {E:Value->Shared->Prop} {o e ke:Expr} {to te:TE} {t tk:TA} {pos p kpos:Pos}
theorem Aff {b:Bool} {Q:Value->Shared->Prop} (I:Inv X pins σ H s) (e:H a = some (.ins C dx fs)) (c:Cls X.K C) (k:Bnd X.K C m f) (l:fs.lookup m = none)
  (h:Q (.ref s.heap.objs.size) { s with heap:=s.heap.push (PySem.W.methodObj (.ref f) (.ref a)),toks:=s.toks + 1 }):wpAny (model X.prog X.w) A (getAttr (.ref a) m b) Q E s:=by
 obtain ⟨mA,O,r,_,_,_⟩:=Qp I.hok e
 have hn:mA m = none:=RelO.none_of (by rw [<- l]; exact r m)
 obtain ⟨od,J,hl⟩:=O.look
 exact PySem.W.get_bind I.kIn J (PySem.W.plainGet_of (c.get m)).1 (PySem.W.findObj_fn c.hd k.at_ k.gg k.tk k.cp (by rw [hl,hn])) (PySem.W.plainGet_of (c.get m)).2
  (wpAny_call (PySem.W.fn_get (s:={ s with toks:=s.toks + 1 }) I.kIn (beq_iff_eq.mp k.fn) (PySem.W.handed_on rfl h)))
def Ace (C:Addr) (m:Str) (f:Addr) (to:TE):TE:=fun σ H Q=>to σ H fun x H1=>∃ a dx fs,x = .ref a/\H1 a = some (.ins C dx fs)/\fs.lookup m = none/\∀ (q:Addr) (H2:Hp),H1 q = none->Same H1 H2->H2 q = some (.met f a)->Q (.ref q) H2
theorem Aep (he:PE X o to) (c:Cls X.K C) (k:Bnd X.K C m f) (hb:attributeBase o m X.env (eval o X.env) = eval o X.env:=by rfl):PE X (.Attribute o m pos) (Ace C m f to):=by
 intro pins s σ H Q I h
 refine Aax hb (thn (he pins s σ H _ I h) fun u s1 ⟨x,H1,I1,rx,a,dx,fs,ex,ea,l,q⟩=>?_)
 subst ex
 obtain rfl:u = Value.ref a:=rx
 have hf:H1 s1.heap.objs.size = none:=I1.fresh
 refine Aff I1 ea c k l ⟨.ref s1.heap.objs.size,upd H1 s1.heap.objs.size (.met f a),I1.laid (t':=s1.toks + 1) (fun b o e=>Heap.get?_push_of_some _ e) (Nat.le_refl _) ?_,rfl,q _ _ hf (Same.laid hf) Bl⟩
 show (s1.heap.push (PySem.W.methodObj (.ref f) (.ref a))).get? s1.heap.objs.size = some (PySem.W.methodObj (.ref f) (.ref a))
 exact Heap.get?_push_size _ rfl
def Ac5 (K:PySem.W.Frag) (sp:Sp) (f:Addr) (t tk:TA):TE:=fun σ H Q=>t σ H fun xs H1=>tk σ H1 fun ks H2=>AdG K sp f xs ks H2 Q
theorem Afl (F:FnOk X.prog X.w X.K X.mg X.base CX k f fd ps sp) (hr:Room (k + 2) X.A) (hb:Binds X.K fd ps []) (hno:∀ outer H s e s',CX outer H s E0 e s'->False) (hg:Gl X "sorted") (hm:X.mg "sorted" = none) (ha:PA X [e] t) (hk:PK X [⟨some "key",ke,kpos⟩] tk)
  (he:backTo pos (starEach [e] X.env) = (false,eval e X.env) :: backTo pos (starEach [] X.env):=by rfl) (hp:(backTo pos (starEach [e] X.env)).any (·.1) = false:=by rfl) :
  PE X (.Call (.Name "sorted" p) [e] [⟨some "key",ke,kpos⟩] pos) (Ac5 X.K sp f t tk):=by
 intro pins s σ H Q I h
 refine wpAny_Call_Name_kw (Lf I hg hm PyProof.Rows.boot_sorted ?_ (by decide) (by decide))
 refine PyProof.Rows.callWith_kw (thn (ha pos pins s σ H _ I h) fun us s1 ⟨vs,H1,I1,r1,q1⟩=>thn (hk pos pins s1 σ H1 _ I1 q1) fun ws s2 ⟨zs,H2,I2,r2,q2⟩=>?_) he hp rfl rfl
 exact AbN F hr hb hno I2 r1 r2 q2
def Aad:V->List V->Hp->VK->Prop:=fun x vs H Q=>∃ l b xs zs,x = .ref l/\vs = [.ref b]/\H l = some (.lst xs)/\H b = some (.lst zs)/\xs.length + zs.length <= sizeLine/\∀ H',Chg l H H'->H' l = some (.lst (xs ++ zs))->Q .non H'
end
theorem Rs {X:Cx}:MtR X "list.extend" Aad:=fun pins s σ H x vs v us Q I rx rv ⟨l,b,xs,zs,e1,e2,h1,h2,hz,q⟩=>Ady pins s σ H x vs v us Q I rx rv ⟨l,b,xs,zs,e1,e2,h1,h2,hz,q _ Chg.put Bl⟩
theorem no0:∀ outer H s e s',CX0 outer H s E0 e s'->False:=fun _ _ _ _ _ h=>h
end L2
namespace L2
open PySem PySem.Spec PyProof.Rows
def Nh (n:Nat) (lo hi st:Option Int):List Nat:=sliceRange (sliceBounds lo hi st n).1 (sliceBounds lo hi st n).2.1 (sliceBounds lo hi st n).2.2
def pick {α:Type} (is:List Nat) (xs:List α):List α:=is.filterMap (xs[·]?)
theorem Aef {α β:Type} (f:α->β) (is:List Nat) (xs:List α):pick is (xs.map f) = (pick is xs).map f:=by
 unfold pick
 induction is with
 | nil=>rfl
 | cons i is ih =>
  rw [List.filterMap_cons,List.filterMap_cons,List.getElem?_map,ih]
  cases xs[i]? <;> rfl
theorem Oq {α:Type} (is:List Nat) (xs:List α):(pick is xs).length <= is.length:=by unfold pick; exact List.length_filterMap_le ..
theorem Vals.pick {xs:List V} {us:List Value} (r:Vals xs us):∀ is:List Nat,Vals (pick is xs) (pick is us)
 | []=>.nil
 | i :: is=>by
  have ih:=Vals.pick r is
  unfold L2.pick at ih ⊢
  rw [List.filterMap_cons,List.filterMap_cons]
  cases e:xs[i]? with
  | none =>
   have:us[i]? = none:=by
    rw [List.getElem?_eq_none_iff] at e ⊢
    rw [<- r.length]; exact e
   rw [this]; exact ih
  | some x =>
   obtain ⟨u,hu,ru⟩:=r.get e
   rw [hu]; exact .cons ru ih
theorem Wv (lo hi st:Option Int) (n:Nat):((sliceBounds lo hi st n).2.2 > 0->0 <= (sliceBounds lo hi st n).1/\(sliceBounds lo hi st n).2.1 <= n)/\(¬ (sliceBounds lo hi st n).2.2 > 0->(sliceBounds lo hi st n).1 <= (n:Int) - 1/\-1 <= (sliceBounds lo hi st n).2.1):=by
 unfold sliceBounds
 dsimp only
 constructor
 ·intro h
  cases lo <;> cases hi <;> simp only [h,if_true] <;> omega
 ·intro h
  cases lo <;> cases hi <;> simp only [h,if_false] <;> omega
theorem Ut (n:Nat) (lo hi st:Option Int):(Nh n lo hi st).length <= n:=sliceRange_length_le _ _ _ n (Wv lo hi st n).1 (Wv lo hi st n).2
def AlC (K:PySem.W.Frag):V->Option Int->Option Int->Option Int->Hp->VK->Prop:=fun x lo hi st H Q=>∃ a xs,x = .ref a/\SqL K H a xs/\st ≠ some 0/\∀ p H',H p = none->Same H H'->H' p = some (.lst (pick (Nh xs.length lo hi st) xs))->Q (.ref p) H'
def Ae9 (K:PySem.W.Frag) (te:TE) (tl th ts:TO):TE:=fun σ H Q=>te σ H fun x H1=>tl σ H1 fun l H2=>th σ H2 fun u H3=>ts σ H3 fun st H4=>AlC K x l u st H4 Q
theorem AcQ {X:Cx} {e:Expr} {te:TE} {lo hi:Option Expr} {st:Expr} {tl th ts:TO} {pos p2:Pos} (he:PE X e te) (hl:PO X lo tl) (hu:PO X hi th) (hs:PO X (some st) ts):PE X (.Subscript e (.Slice lo hi (some st) p2) pos) (Ae9 X.K te tl th ts):=by
 intro pins s σ H Q I h
 refine Subscript_ (thn (he pins s σ H _ I h) fun v s1 ⟨x,H1,I1,r1,q1⟩=>?_)
 refine wpAny_Slice (thn (hl pins s1 σ H1 _ I1 q1) fun vl s2 ⟨l,H2,I2,pl,q2⟩=>thn (hu pins s2 σ H2 _ I2 q2) fun vu s3 ⟨u,H3,I3,pu,q3⟩=>thn (hs pins s3 σ H3 _ I3 q3) fun vs s4 ⟨w,H4,I4,pw,q4⟩=>?_)
 have I5:Inv X pins σ H4 { s4 with heap:=s4.heap.push { cls:=.type "slice",data:=.fields #[vl,vu,vs] } }:=I4.kept (t':=s4.toks) fun b ob q=>Heap.get?_push_of_some _ q
 obtain ⟨a,xs,rfl,hx,h0,q⟩:=q4
 cases r1
 obtain ⟨its,r,ht,hz⟩:=I5.list hx
 have hlen:=r.length
 show wpAny (model X.prog X.w) X.A (subscriptTail e (.Slice lo hi (some st) p2) (.ref a) (.ref s4.heap.objs.size)) (EP X pins σ Q) X.xe { s4 with heap:=s4.heap.push { cls:=.type "slice",data:=.fields #[vl,vu,vs] } }
 refine tail_any (ops:=[.ref a,.ref s4.heap.objs.size]) ht.isList.typeIs slot_list_getitem.lookup ?_ (by with_unfolding_all rfl)
 refine wpAny_getItem_list_slice ht.isList (Heap.IsSliceOf.new ..) pl pu pw h0 ?_ (by rw [List.size_toArray]; omega)
 have hf:H4 (s4.heap.push { cls:=.type "slice",data:=.fields #[vl,vu,vs] }).objs.size = none:=I5.hok.fresh (Nat.le_refl _)
 have ep:slicePick its.toArray l u w = (pick (Nh xs.length l u w) its).toArray:=by
  unfold slicePick pick Nh
  rw [hlen,List.size_toArray]
  congr 2
  funext i
  simp
 rw [ep]
 refine ⟨.ref (s4.heap.push { cls:=.type "slice",data:=.fields #[vl,vu,vs] }).objs.size,_,I5.laid (t':=s4.toks) (o:=.lst (pick (Nh xs.length l u w) xs)) (fun b ob q=>Heap.get?_push_of_some _ q) (Nat.le_refl _) ?_,rfl,q _ _ hf (Same.laid hf) Bl⟩
 exact ⟨Nat.le_trans (Oq _ _) (Nat.le_trans (Ut _ _ _ _) hz),_,0,Vals.pick r _,Heap.get?_push_size _ rfl⟩
end L2
namespace L2
open PySem PySem.Spec PyProof.Rows
def Itn (K:PySem.W.Frag) (a:Addr):It :=
 ⟨fun i H=>∃ xs x,SqL K H a xs/\xs[i]? = some x,fun i H x H'=>∃ t y,H t = none/\(∀ xs,SqL K H a xs->xs[i]? = some y)/\x = .ref t/\H' = upd H t (.tup [.int (i:Int),y]),fun i H=>∃ xs,SqL K H a xs/\xs.length <= i⟩
theorem Adu {P:Program} {w:World} {K:PySem.W.Frag} {elts:List Expr} {x1:Nat} {tp:Pos} (a e it:Addr) (hne:e ≠ it) :
  Sn P w K (.Tuple elts x1 tp) (Itn K a) [e,it] e (fun i h=>(∃ old,IsEnum h e it i old)/\h.IsListIter it a i) where
 mem:=by simp
 obj:=fun i h st b hb=>by
  obtain ⟨⟨old,e1⟩,ob,e2,c2,d2⟩:=st
  rcases List.mem_cons.mp hb with z | z
  ·subst z; exact ⟨_,e1,fun v z=>nomatch z⟩
  ·have z':=List.mem_singleton.mp z
   subst z'
   exact ⟨ob,e2,fun v z=>by rw [d2] at z; cases z⟩
 keep:=fun i h h' st k=>by
  obtain ⟨⟨old,e1⟩,li⟩:=st
  exact ⟨⟨old,k e (by simp) _ e1⟩,li.at fun o q=>k it (by simp) o q⟩
 item:=by
  intro X hP hw hK hc i pins s σ H E I hf st hg
  subst hP hw hK
  obtain ⟨xs,x,hq,hx⟩:=hg
  obtain ⟨⟨old,he⟩,li⟩:=st
  obtain ⟨its,rv,p,hz⟩:=I.list hq
  obtain ⟨u,hu,ru⟩:=rv.get hx
  obtain ⟨f0,f1,f2,f3,f4,f5⟩:=hf e (by simp)
  obtain ⟨g0,g1,g2,g3,g4,g5⟩:=hf it (by simp)
  have hfr:H s.heap.objs.size = none:=I.hok.fresh (Nat.le_refl _)
  have hne1:s.heap.objs.size ≠ e:=Nat.ne_of_gt (Heap.lt_size he)
  have hne2:s.heap.objs.size ≠ it:=by obtain ⟨_,q,_⟩:=li; exact Nat.ne_of_gt (Heap.lt_size q)
  refine wpAny_pyNext_enum_item he li p.isList (x:=u) (by simpa using hu) hne fun h' ho li' hT hsz hk=>⟨_,rfl,?_⟩
  refine wpAny_letOwnedTupleGo_enum (s:={ s with heap:=h',toks:=s.toks + 1 }) ho fun h2 he2 hs=>?_
  have kp:∀ b o,b ≠ e->b ≠ it->s.heap.get? b = some o->h2.get? b = some o:=fun b o n1 n2 q=>(hs.2 b n1).trans (hk b o n1 n2 q)
  have hT2:h2.get? s.heap.objs.size = some { cls:=.type "tuple",data:=.seq #[.int i s.toks,u] }:=(hs.2 _ hne1).trans hT
  have nt:∀ b v,H b = some v->b ≠ s.heap.objs.size:=fun b v q=>Bm q hfr
  have nc:∀ b,b ∉ [e,it]->b ≠ e/\b ≠ it:=fun b z=>⟨fun w=>z (by simp [w]),fun w=>z (by simp [w])⟩
  refine ⟨.ref s.heap.objs.size,upd H s.heap.objs.size (.tup [.int (i:Int),x]),?_,rfl,⟨_,x,hfr,(fun ys hy=>by rw [I.list_inj hy hq]; exact hx),rfl,rfl⟩,⟨⟨u,by simpa using he2⟩,li'.at fun o q=>(hs.2 it hne.symm).trans q⟩,fun b hb=>?_⟩
  ·refine Inv.step (s:=s) (h':=h2) I (g':=s.gens) (d':=s.drawn) (t':=s.toks + 1) (ch:=[e,it]) (fun b hb=>?_) (fun b o _ _ hc q _=>kp b o (nc b hc).1 (nc b hc).2 q) (fun b o _ _ hc q _=>⟨o.slots,kp b o (nc b hc).1 (nc b hc).2 q⟩)
    (fun b o hc q n=>by rw [Bg (Nat.ne_of_lt (Heap.lt_size q))]; exact n) (fun b o hc q=>⟨o,kp b o (nc b hc).1 (nc b hc).2 q⟩) (fun b xs q=>by rw [Bg (nt b _ q)]; exact q) (fun b o v q=>by rw [Bg (nt b _ q)]; exact q)
    (fun b ps q=>⟨#[],by rw [Bg (nt b _ q),q]; simp⟩) (fun m hm=>?_) (fun b v q=>?_) I.bare
   ·rcases List.mem_cons.mp hb with z | z
    ·subst z; exact ⟨f3,f1,f4,f5⟩
    ·have z':=List.mem_singleton.mp z
     subst z'; exact ⟨g3,g1,g4,g5⟩
   ·obtain ⟨o,es,ep,ho,r⟩:=hm
    exact ⟨o,es,ep,kp _ o (Ne.symm f1) (Ne.symm g1) ho,r⟩
   ·by_cases hb:b = s.heap.objs.size
    ·subst hb
     rw [Bl] at q
     cases q
     exact ⟨by show 2 <= sizeLine; decide,[.int i s.toks,u],.cons (show RelV (.int (i:Int)) (.int i s.toks) from ⟨_,rfl⟩) (.cons ru .nil),_,hT2,rfl,_,rfl⟩
    ·rw [Bg hb] at q
     have n1:∀ c w,H c = some w->c ≠ e:=fun c w q z=>by rw [z,f0] at q; cases q
     have n2:∀ c w,H c = some w->c ≠ it:=fun c w q z=>by rw [z,g0] at q; cases q
     refine (I.hok b v q).stay (fun c v' hc q'=>?_) (fun c q'=>by rw [Bg (nt c _ q')]; exact q') fun c xs q'=>by rw [Bg (nt c _ q')]; exact q'
     rcases hc with z | z
     ·rw [z] at q' ⊢; exact kp b v' (n1 b _ q) (n2 b _ q) q'
     ·exact kp c v' (n1 c _ z) (n2 c _ z) q'
  ·rcases List.mem_cons.mp hb with z | z
   ·rw [z,Bg (Ne.symm hne1)]; exact f0
   ·rw [List.mem_singleton.mp z,Bg (Ne.symm hne2)]; exact g0
 done:=by
  intro X hP hw hK hc i pins s σ H E I hf st hg
  subst hP hw hK
  obtain ⟨xs,hq,hx⟩:=hg
  obtain ⟨⟨old,he⟩,li⟩:=st
  obtain ⟨its,rv,p,hz⟩:=I.list hq
  obtain ⟨g0,g1,g2,g3,g4,g5⟩:=hf it (by simp)
  have hl:=rv.length
  exact wpAny_pyNext_enum_end (I.ok.hd hc) he li p.isList (by simp; omega) fun h' eb=>⟨rfl,I.turned (t':=s.toks) (fun b o hb q=>eb b o hb q) g0 g1 g3 g4 g5⟩
 self:=fun A i s Q E st h=>by
  obtain ⟨⟨old,he⟩,_⟩:=st
  exact wpAny_pyIter_enum he h
section
variable {X:Cx} {elts:List Expr} {x1:Nat} {tp p pos:Pos}
def AfC (K:PySem.W.Frag) (tl:TE):TI:=fun σ H R=>tl σ H fun x H1=>∃ a,x = .ref a/\(∃ xs,SqL K H1 a xs)/\R (Itn K a) H1
theorem Ag4 {l:Expr} {tl:TE} (hl:PE X l tl) (hg:Gl X "enumerate") (hm:X.mg "enumerate" = none) (hs:starEach [l] X.env = [(false,eval l X.env)]:=by rfl):PI X (.Tuple elts x1 tp) (.Call (.Name "enumerate" p) [l] [] pos) (AfC X.K tl):=by
 intro pins s σ H R I h
 have pa:PA X [l] (Gu tl Ot):=Ba hl Bc hs
 refine Call_ (Lf I hg hm PyProof.Rows.boot_enumerate (PyProof.Rows.callWith_type1 (thn (pa pos pins s σ H (fun vs H1=>match vs with
  | [x]=>∃ a,x = .ref a/\(∃ xs,SqL X.K H1 a xs)/\R (Itn X.K a) H1
  | _=>False) I h) fun us s1 ⟨vs,H1,I1,r1,q1⟩=>?_) hs rfl))
 match vs,q1 with
 | [x],⟨a,e,⟨xs,hq⟩,q⟩ =>
  subst e
  obtain ⟨u,rfl,ru⟩:=Ty r1
  cases ru
  obtain ⟨its,rv,pl,hz⟩:=I1.list hq
  refine call_enumerate_list pl.isList fun h' he li hsz hk=>?_
  have I2:Inv X pins σ H1 { s1 with heap:=h' }:=I1.kept (t':=s1.toks) hk
  refine wpAny_pyIter_enum (s:={ s1 with heap:=h' }) he ⟨s1.heap.objs.size + 1,[s1.heap.objs.size + 1,s1.heap.objs.size],_,_,H1,rfl,I2,Adu a _ _ (Nat.succ_ne_self _),⟨⟨_,he⟩,li⟩,fun b hb=>?_,q⟩
  have hge:s1.heap.objs.size <= b:=by
   rcases List.mem_cons.mp hb with z | z
   ·rw [z]; exact Nat.le_succ _
   ·rw [List.mem_singleton.mp z]; exact Nat.le_refl _
  exact I1.fpOk hge (I1.hok.fresh hge)
theorem Afh {K:PySem.W.Frag} {a:Addr} {xs:List V} {g:TG} {tb:TS} {D:Ends} {σ:St} {H:Hp} (Pv:Nat->St->Hp->Prop) (h0:Pv 0 σ H) (hl:∀ i σ H,i <= xs.length->Pv i σ H->SqL K H a xs)
  (hs:∀ i x t σ H,xs[i]? = some x->H t = none->Pv i σ H->g (.ref t) σ (upd H t (.tup [.int (i:Int),x])) fun σ2 H2=>tb { D with nx:=Pv (i + 1),ct:=Pv (i + 1),bk:=D.nx } σ2 H2) (hd:∀ σ H,Pv xs.length σ H->D.nx σ H) :
  ∃ W:Nat->Nat->St->Hp->Prop,(∃ m,W 0 m σ H)/\∀ i m σ H,W i m σ H ->
   ((Itn K a).stop i H/\D.nx σ H)\/((Itn K a).go i H/\∃ N:St->Hp->Prop,(∀ σ' H',N σ' H'->∃ m',m' < m/\W (i + 1) m' σ' H')/\∀ x H',(Itn K a).yld i H x H'->g x σ H' fun σ2 H2=>tb { D with nx:=N,ct:=N,bk:=D.nx } σ2 H2):=by
 refine ⟨fun i m σ H=>m = xs.length - i/\i <= xs.length/\Pv i σ H,⟨xs.length,by simp,Nat.zero_le _,h0⟩,?_⟩
 rintro i m σ H ⟨rfl,hi,p⟩
 have q:=hl i σ H hi p
 by_cases hlt:i < xs.length
 ·refine .inr ⟨⟨xs,xs[i],q,by simp [hlt]⟩,Pv (i + 1),fun σ' H' p'=>⟨xs.length - (i + 1),by omega,rfl,hlt,p'⟩,fun x H' y=>?_⟩
  obtain ⟨t,y,ht,hy,rfl,rfl⟩:=y
  have e:=hy xs q
  exact hs i y t σ _ e ht p
 ·have e:i = xs.length:=by omega
  subst e
  exact .inl ⟨⟨xs,q,Nat.le_refl _⟩,hd σ H p⟩
end
end L2
namespace L2
open PySem PySem.Spec PyProof.Rows
end L2
namespace L2
open PySem PySem.Spec PyProof.Rows
section
variable {X:Cx} {e de:Expr} {t tk:TA} {pos p kpos:Pos}
end
end L2
set_option Elab.async false
set_option linter.all false
set_option maxRecDepth 100000
set_option maxHeartbeats 4000000
namespace L2
open PySem PySem.Spec PyProof.Rows
section
variable {prog:Program} {w:World} {A:Around} {E:Value->Shared->Prop} {s:Shared} {R:Result->Shared->Prop} {I:Addr} {fp wr:List Addr} {G:Array GenState->Array GenState->Prop} {n:Nat} {P:Nat->Value->Prop} {St:Nat->Shared->Prop}
end
theorem Xg:bootBuiltins "reversed" = some (.type "reversed"):=by kernel_rfl
def on1 (R:V->Hp->Prop):List V->Hp->Prop
 | [x],H=>R x H
 | _,_=>False
section
variable {X:Cx} {p p2 pos pos2:Pos} {tg:Expr}
def Itv (K:PySem.W.Frag) (a:Addr) (n:Nat):It :=
 ⟨fun i H=>i < n/\∃ xs,SqL K H a xs/\xs.length = n,fun i H x H'=>H' = H/\∀ xs,SqL K H a xs->xs[n - 1 - i]? = some x,fun i H=>n <= i⟩
theorem Ae0 {P:Program} {w:World} {K:PySem.W.Frag} {tg:Expr} (a it:Addr) (n:Nat):Sn P w K tg (Itv K a n) [it] it (fun i h=>i <= n/\h.IsRevIter it a ((n:Int) - 1 - (i:Nat))) where
 mem:=by simp
 obj:=fun i h st b hb=>by
  have e:b = it:=by simpa using hb
  subst e
  obtain ⟨o,e,c,d⟩:=st.2
  exact ⟨o,e,fun v z=>by rw [d] at z; cases z⟩
 keep:=fun i h h' st k=>⟨st.1,st.2.at fun o e=>k it (by simp) o e⟩
 item:=by
  intro X hP hw hK hc i pins s σ H E I hf st hg
  subst hP hw hK
  obtain ⟨hi,xs,hq,hn⟩:=hg
  obtain ⟨its,rv,p,hz⟩:=I.list hq
  have hlen:=rv.length
  obtain ⟨x,hx⟩:∃ x,xs[n - 1 - i]? = some x:=⟨_,List.getElem?_eq_getElem (by omega)⟩
  obtain ⟨u,hu,ru⟩:=rv.get hx
  obtain ⟨f0,f1,f2,f3,f4,f5⟩:=hf it (by simp)
  have e1:(n:Int) - 1 - (i:Nat) = ((n - 1 - i:Nat):Int):=by omega
  have st2:=st.2
  rw [e1] at st2
  refine wpAny_pyNext_rev_item st2 p.isList (x:=u) (by simpa using hu) fun h' st' sb=>?_
  have e2:((n - 1 - i:Nat):Int) - 1 = (n:Int) - 1 - ((i + 1:Nat):Int):=by omega
  rw [e2] at st'
  have I1:Inv X pins σ H { s with heap:=h' }:=I.turned (t':=s.toks) (fun b o hb e=>(sb.2 b hb).trans e) f0 f1 f3 f4 f5
  obtain ⟨o,e,c,d⟩:=id st'
  exact ⟨u,rfl,Xn (s:={ s with heap:=h' }) e c d (by decide) ⟨x,H,I1,ru,⟨rfl,fun ys hy=>by rw [I.list_inj hy hq]; exact hx⟩,⟨hi,st'⟩,fun b hb=>(hf b hb).1⟩⟩
 done:=by
  intro X hP hw hK hc i pins s σ H E I hf st hg
  subst hP hw hK
  obtain ⟨f0,f1,f2,f3,f4,f5⟩:=hf it (by simp)
  have hge:n <= i:=hg
  have e1:(n:Int) - 1 - (i:Nat) = -1:=by have:=st.1; omega
  have st2:=st.2
  rw [e1] at st2
  exact wpAny_pyNext_rev_end (I.ok.hd hc) st2 fun h' eb=>⟨rfl,I.turned (t':=s.toks) (fun b o hb e=>eb b o hb e) f0 f1 f3 f4 f5⟩
 self:=fun _ _ _ _ _ st h=>wpAny_pyIter_revIter st.2 h
def AhN (K:PySem.W.Frag) (tl:TE):TI:=fun σ H R=>tl σ H fun x H1=>∃ a xs,x = .ref a/\SqL K H1 a xs/\R (Itv K a xs.length) H1
theorem Aiu {l:Expr} {tl:TE} (hl:PE X l tl) (hg:Gl X "reversed") (hm:X.mg "reversed" = none) (hs:starEach [l] X.env = [(false,eval l X.env)]:=by rfl):PI X tg (.Call (.Name "reversed" p) [l] [] pos) (AhN X.K tl):=by
 intro pins s σ H R I h
 refine Call_ (Lf I hg hm Xg (PyProof.Rows.callWith_type1 (thn ((Ba hl Bc hs) pos pins s σ H (on1 fun x H1=>∃ a xs,x = .ref a/\SqL X.K H1 a xs/\R (Itv X.K a xs.length) H1) I h) fun us s1 ⟨vs,H1,I1,r1,q1⟩=>?_) hs rfl))
 cases vs with
 | nil=>exact False.elim q1
 | cons x vs =>
  cases vs with
  | cons y vs=>exact False.elim q1
  | nil =>
   obtain ⟨a,xs,e0,hq,q⟩:=q1
   subst e0
   obtain ⟨u,rfl,ru⟩:=Ty r1
   cases ru
   obtain ⟨its,rv,pl,hz⟩:=I1.list hq
   have hlen:=rv.length
   refine call_reversed_list pl.isList ?_
   have I2:Inv X pins σ H1 { s1 with heap:=s1.heap.push (revObj a ((its.toArray.size:Int) - 1)) }:=I1.kept (t':=s1.toks) fun b o e=>Heap.get?_push_of_some _ e
   have ri:(s1.heap.push (revObj a ((its.toArray.size:Int) - 1))).IsRevIter s1.heap.objs.size a ((xs.length:Int) - 1 - ((0:Nat):Int)):=⟨_,Heap.get?_push_size _ rfl,rfl,by simp [revObj,hlen]⟩
   refine wpAny_pyIter_revIter ri ⟨s1.heap.objs.size,[s1.heap.objs.size],_,_,H1,rfl,I2,Ae0 a _ xs.length,⟨Nat.zero_le _,ri⟩,fun b hb=>?_,q⟩
   have e:b = s1.heap.objs.size:=by simpa using hb
   subst e
   exact I1.fpOk (Nat.le_refl _) (I1.hok.fresh (Nat.le_refl _))
end
theorem Vh {X:Cx} (K':PySem.W.Frag) {e:Expr} {te:TE} {lo hi:Option Expr} {st:Expr} {tl th ts:TO} {pos p2:Pos} (he:PE X e te) (hl:PO X lo tl) (hu:PO X hi th) (hs:PO X (some st) ts) (h:X.K = K':=by rfl):PE X (.Subscript e (.Slice lo hi (some st) p2) pos) (Ae9 K' te tl th ts):=by
 subst h
 exact AcQ he hl hu hs
end L2
set_option Elab.async false
set_option linter.all false
set_option maxRecDepth 100000
set_option maxHeartbeats 4000000
namespace L2
open PySem PySem.Spec PyProof.Rows
theorem Ac1:bootBuiltins "zip" = some (.type "zip"):=by kernel_rfl
theorem Inv.turnedL {X:Cx} {pins:List (Addr × Obj)} {σ:St} {H:Hp} {s:Shared} {h':Heap} {t':Nat} {ch:List Addr} (I:Inv X pins σ H s) (k:∀ b o,b ∉ ch->s.heap.get? b = some o->h'.get? b = some o) (hf:∀ b ∈ ch,Su X pins H b):Inv X pins σ H { s with heap:=h',toks:=t' }:=by
 have nit:∀ b u,H b = some u->b ∉ ch:=fun b u e z=>by rw [(hf b z).1] at e; cases e
 refine I.step (g':=s.gens) (d':=s.drawn) (ch:=ch) (fun b hb=>?_) (fun b o _ _ hc e _=>k b o hc e) (fun b o _ _ hc e _=>⟨o.slots,k b o hc e⟩) (fun _ _ _ _ n=>n)
  (fun b o hc e=>⟨o,k b o hc e⟩) (fun _ _ e=>e) (fun _ _ _ e=>e) (fun b ps e=>⟨#[],by rw [e]; simp⟩) (fun m hm=>?_) (fun b u e=>?_) I.bare
 ·obtain ⟨f0,f1,f2,f3,f4,f5⟩:=hf b hb
  exact ⟨f3,f1,f4,f5⟩
 ·obtain ⟨o,es,ep,ho,r⟩:=hm
  exact ⟨o,es,ep,k _ o (fun z=>(hf _ z).2.1 rfl) ho,r⟩
 ·refine (I.hok b u e).stay (fun c v hc q=>k c v ?_ q) (fun _ q=>q) fun _ _ q=>q
  rcases hc with z | z
  ·rw [z]; exact nit b u e
  ·exact nit c _ z
def Itz (K:PySem.W.Frag) (a b:Addr):It :=
 ⟨fun i H=>∃ xs x ys y,SqL K H a xs/\xs[i]? = some x/\SqL K H b ys/\ys[i]? = some y,
  fun i H v H'=>∃ t x y,H t = none/\(∀ xs,SqL K H a xs->xs[i]? = some x)/\(∀ ys,SqL K H b ys->ys[i]? = some y)/\v = .ref t/\H' = upd H t (.tup [x,y]),
  fun i H=>∃ xs ys,SqL K H a xs/\SqL K H b ys/\(xs.length <= i\/ys.length <= i)⟩
theorem AeB {P:Program} {w:World} {K:PySem.W.Frag} {elts:List Expr} {x1:Nat} {tp:Pos} (a b z TI TO i1 i2:Addr) (D:ZipApart z TI TO i1 i2 a b) :
  Sn P w K (.Tuple elts x1 tp) (Itz K a b) [z,TI,TO,i1,i2] z (fun i h=>IsZip h z TI TO .none/\IsPair h TI (.ref i1) (.ref i2)/\(∃ x y,IsPair h TO x y)/\h.IsListIter i1 a i/\h.IsListIter i2 b i) where
 mem:=by simp
 obj:=fun i h st c hc=>by
  obtain ⟨hz,hTI,⟨x,y,hTO⟩,⟨o1,e1,c1,d1⟩,⟨o2,e2,c2,d2⟩⟩:=st
  simp only [List.mem_cons,List.not_mem_nil,or_false] at hc
  rcases hc with rfl | rfl | rfl | rfl | rfl
  ·exact ⟨_,hz,fun v z=>nomatch z⟩
  ·exact ⟨_,hTI,fun v z=>nomatch z⟩
  ·exact ⟨_,hTO,fun v z=>nomatch z⟩
  ·exact ⟨o1,e1,fun v z=>by rw [d1] at z; cases z⟩
  ·exact ⟨o2,e2,fun v z=>by rw [d2] at z; cases z⟩
 keep:=fun i h h' st k=>by
  obtain ⟨hz,hTI,⟨x,y,hTO⟩,h1,h2⟩:=st
  exact ⟨k z (by simp) _ hz,k TI (by simp) _ hTI,⟨x,y,k TO (by simp) _ hTO⟩,h1.at fun o e=>k i1 (by simp) o e,h2.at fun o e=>k i2 (by simp) o e⟩
 item:=by
  intro X hP hw hK hc i pins s σ H E I hf st hg
  subst hP hw hK
  obtain ⟨xs,x,ys,y,hq,hx,hq2,hy⟩:=hg
  obtain ⟨hz,hTI,⟨oa,ob,hTO⟩,h1,h2⟩:=st
  obtain ⟨its,rv,p,hzz⟩:=I.list hq
  obtain ⟨its2,rv2,p2,hzz2⟩:=I.list hq2
  obtain ⟨u,hu,ru⟩:=rv.get hx
  obtain ⟨u2,hu2,ru2⟩:=rv2.get hy
  have hfr:H s.heap.objs.size = none:=I.hok.fresh (Nat.le_refl _)
  have lt:∀ c ∈ [z,TI,TO,i1,i2],s.heap.objs.size ≠ c:=fun c hc=>by
   simp only [List.mem_cons,List.not_mem_nil,or_false] at hc
   rcases hc with rfl | rfl | rfl | rfl | rfl
   ·exact Nat.ne_of_gt (Heap.lt_size hz)
   ·exact Nat.ne_of_gt (Heap.lt_size hTI)
   ·exact Nat.ne_of_gt (Heap.lt_size hTO)
   ·obtain ⟨_,e,_⟩:=h1; exact Nat.ne_of_gt (Heap.lt_size e)
   ·obtain ⟨_,e,_⟩:=h2; exact Nat.ne_of_gt (Heap.lt_size e)
  refine wpAny_pyNext_zip_item D hz hTI hTO h1 h2 p.isList p2.isList (x:=u) (y:=u2) (by simpa using hu) (by simpa using hu2) fun h' a1 a2 a3 a4 a5 a6 hk=>⟨_,rfl,?_⟩
  refine wpAny_letOwnedTupleGo_zip (s:={ s with heap:=h' }) a1 fun h2' hz2 hs=>?_
  have kp:∀ c o,c ∉ [z,TI,TO,i1,i2]->s.heap.get? c = some o->h2'.get? c = some o:=fun c o hc q=>by
   simp only [List.mem_cons,List.not_mem_nil,or_false,not_or] at hc
   exact (hs.2 c hc.1).trans (hk c o hc.1 hc.2.2.1 hc.2.2.2.1 hc.2.2.2.2 q)
  have hT2:h2'.get? s.heap.objs.size = some { cls:=.type "tuple",data:=.seq #[u,u2] }:=(hs.2 _ (lt z (by simp))).trans a5
  have nt:∀ b v,H b = some v->b ≠ s.heap.objs.size:=fun b v q=>Bm q hfr
  have nit:∀ b v,H b = some v->b ∉ [z,TI,TO,i1,i2]:=fun b v q hb=>by rw [(hf b hb).1] at q; cases q
  refine ⟨.ref s.heap.objs.size,upd H s.heap.objs.size (.tup [x,y]),?_,rfl,⟨_,x,y,hfr,(fun zs hy=>by rw [I.list_inj hy hq]; exact hx),(fun zs hz=>by rw [I.list_inj hz hq2]; exact hy),rfl,rfl⟩,
   ⟨hz2,(hs.2 TI D.TIz).trans (hk TI _ D.TIz D.TITO D.TIi1 D.TIi2 hTI),⟨_,_,(hs.2 TO D.TOz).trans a2⟩,a3.at fun o q=>(hs.2 i1 D.i1z).trans q,a4.at fun o q=>(hs.2 i2 D.i2z).trans q⟩,fun c hc=>?_⟩
  ·refine Inv.step (s:=s) (h':=h2') I (g':=s.gens) (d':=s.drawn) (t':=s.toks) (ch:=[z,TI,TO,i1,i2]) (fun b hb=>?_) (fun b o _ _ hc q _=>kp b o hc q) (fun b o _ _ hc q _=>⟨o.slots,kp b o hc q⟩)
    (fun b o hc q n=>by rw [Bg (Nat.ne_of_lt (Heap.lt_size q))]; exact n) (fun b o hc q=>⟨o,kp b o hc q⟩) (fun b xs q=>by rw [Bg (nt b _ q)]; exact q) (fun b o v q=>by rw [Bg (nt b _ q)]; exact q)
    (fun b ps q=>⟨#[],by rw [Bg (nt b _ q),q]; simp⟩) (fun m hm=>?_) (fun b v q=>?_) I.bare
   ·obtain ⟨f0,f1,f2,f3,f4,f5⟩:=hf b hb
    exact ⟨f3,f1,f4,f5⟩
   ·obtain ⟨o,es,ep,ho,r⟩:=hm
    exact ⟨o,es,ep,kp _ o (fun z=>(hf _ z).2.1 rfl) ho,r⟩
   ·by_cases hb:b = s.heap.objs.size
    ·subst hb
     rw [Bl] at q
     cases q
     exact ⟨by show 2 <= sizeLine; decide,[u,u2],.cons ru (.cons ru2 .nil),_,hT2,rfl,_,rfl⟩
    ·rw [Bg hb] at q
     refine (I.hok b v q).stay (fun c v' hc q'=>?_) (fun c q'=>by rw [Bg (nt c _ q')]; exact q') fun c xs q'=>by rw [Bg (nt c _ q')]; exact q'
     rcases hc with z | z
     ·rw [z] at q' ⊢; exact kp b v' (nit b _ q) q'
     ·exact kp c v' (nit c _ z) q'
  ·rw [Bg (Ne.symm (lt c hc))]; exact (hf c hc).1
 done:=by
  intro X hP hw hK hc i pins s σ H E I hf st hg
  subst hP hw hK
  obtain ⟨xs,ys,hq,hq2,he⟩:=hg
  obtain ⟨hz,hTI,⟨oa,ob,hTO⟩,h1,h2⟩:=st
  obtain ⟨its,rv,p,hzz⟩:=I.list hq
  obtain ⟨its2,rv2,p2,hzz2⟩:=I.list hq2
  have hl:=rv.length
  have hl2:=rv2.length
  refine wpAny_pyNext_zip_end (I.ok.hd hc) D hz hTI hTO h1 h2 p.isList p2.isList (he.imp (fun h=>by simp; omega) (fun h=>by simp; omega)) fun h' hk=>⟨rfl,I.turnedL (t':=s.toks) (ch:=[z,TI,TO,i1,i2]) (fun c o hc q=>?_) hf⟩
  simp only [List.mem_cons,List.not_mem_nil,or_false,not_or] at hc
  exact hk c o hc.1 hc.2.2.1 hc.2.2.2.1 hc.2.2.2.2 q
 self:=fun A i s Q E st h=>wpAny_pyIter_zip st.1 h
theorem Aak {n a b:Nat} (la:a < n) (lb:b < n):ZipApart (n + 4) (n + 2) (n + 3) n (n + 1) a b:=by
 constructor <;> (intro h; have h':@Eq Nat _ _:=h; omega)
section
variable {X:Cx} {elts:List Expr} {x1:Nat} {tp p pos:Pos}
def AeN (K:PySem.W.Frag) (ta tb:TE):TI:=fun σ H R=>ta σ H fun x H1=>tb σ H1 fun y H2=>∃ a b,x = .ref a/\y = .ref b/\(∃ xs,SqL K H2 a xs)/\(∃ ys,SqL K H2 b ys)/\R (Itz K a b) H2
theorem Aia {l m:Expr} {tl tm:TE} (hl:PE X l tl) (hm':PE X m tm) (hg:Gl X "zip") (hm:X.mg "zip" = none) (hs:starEach [l,m] X.env = [(false,eval l X.env),(false,eval m X.env)]:=by rfl) (hs2:starEach [m] X.env = [(false,eval m X.env)]:=by rfl):PI X (.Tuple elts x1 tp) (.Call (.Name "zip" p) [l,m] [] pos) (AeN X.K tl tm):=by
 intro pins s σ H R I h
 have pa:PA X [l,m] (Gu tl (Gu tm Ot)):=Ba hl (Ba hm' Bc hs2) (by rw [hs,hs2])
 refine Call_ (Lf I hg hm Ac1 (PyProof.Rows.callWith_type1 (thn (pa pos pins s σ H (fun vs H1=>match vs with
  | [x,y]=>∃ a b,x = .ref a/\y = .ref b/\(∃ xs,SqL X.K H1 a xs)/\(∃ ys,SqL X.K H1 b ys)/\R (Itz X.K a b) H1
  | _=>False) I h) fun us s1 ⟨vs,H1,I1,r1,q1⟩=>?_) (by rw [hs,hs2]) (by rw [hs2]; rfl)))
 match vs,q1 with
 | [x,y],⟨a,b,e1,e2,⟨xs,hq⟩,⟨ys,hq2⟩,q⟩ =>
  subst e1 e2
  cases r1 with
  | cons r rr =>
   cases rr with
   | cons r' rr =>
    cases rr
    cases r
    cases r'
    obtain ⟨its,rv,pl,hz⟩:=I1.list hq
    obtain ⟨its2,rv2,pl2,hz2⟩:=I1.list hq2
    have la:a < s1.heap.objs.size:=by obtain ⟨o,e,_⟩:=pl.isList; exact Heap.lt_size e
    have lb:b < s1.heap.objs.size:=by obtain ⟨o,e,_⟩:=pl2.isList; exact Heap.lt_size e
    have D:=Aak la lb
    refine call_zip_2 pl.isList pl2.isList fun h' z1 z2 z3 z4 z5 z6 hk=>?_
    have I2:Inv X pins σ H1 { s1 with heap:=h' }:=I1.kept (t':=s1.toks) hk
    refine wpAny_pyIter_zip (s:={ s1 with heap:=h' }) z1 ⟨_,[s1.heap.objs.size + 4,s1.heap.objs.size + 2,s1.heap.objs.size + 3,s1.heap.objs.size,s1.heap.objs.size + 1],_,_,H1,rfl,I2,AeB a b _ _ _ _ _ D,⟨z1,z2,⟨_,_,z3⟩,z4,z5⟩,fun c hc=>?_,q⟩
    have hge:s1.heap.objs.size <= c:=by
     simp only [List.mem_cons,List.not_mem_nil,or_false] at hc
     rcases hc with rfl | rfl | rfl | rfl | rfl
     ·exact Nat.le_add_right _ _
     ·exact Nat.le_add_right _ _
     ·exact Nat.le_add_right _ _
     ·exact Nat.le_refl _
     ·exact Nat.le_add_right _ _
    exact I1.fpOk hge (I1.hok.fresh hge)
theorem Ahn (K':PySem.W.Frag) {l m:Expr} {tl tm:TE} (hl:PE X l tl) (hm':PE X m tm) (hg:Gl X "zip") (hm:X.mg "zip" = none) (hK:X.K = K':=by rfl) (hs:starEach [l,m] X.env = [(false,eval l X.env),(false,eval m X.env)]:=by rfl) (hs2:starEach [m] X.env = [(false,eval m X.env)]:=by rfl):PI X (.Tuple elts x1 tp) (.Call (.Name "zip" p) [l,m] [] pos) (AeN K' tl tm):=by
 subst hK
 exact Aia hl hm' hg hm hs hs2
theorem Ag2 {K:PySem.W.Frag} {a b:Addr} {xs ys:List V} {g:TG} {tb:TS} {D:Ends} {σ:St} {H:Hp} (Pv:Nat->St->Hp->Prop) (h0:Pv 0 σ H) (hl:∀ i σ H,Pv i σ H->SqL K H a xs/\SqL K H b ys)
  (hs:∀ i x y t σ H,xs[i]? = some x->ys[i]? = some y->H t = none->Pv i σ H->g (.ref t) σ (upd H t (.tup [x,y])) fun σ2 H2=>tb { D with nx:=Pv (i + 1),ct:=Pv (i + 1),bk:=D.nx } σ2 H2) (hd:∀ σ H,Pv (min xs.length ys.length) σ H->D.nx σ H) :
  ∃ W:Nat->Nat->St->Hp->Prop,(∃ m,W 0 m σ H)/\∀ i m σ H,W i m σ H ->
   ((Itz K a b).stop i H/\D.nx σ H)\/((Itz K a b).go i H/\∃ N:St->Hp->Prop,(∀ σ' H',N σ' H'->∃ m',m' < m/\W (i + 1) m' σ' H')/\∀ x H',(Itz K a b).yld i H x H'->g x σ H' fun σ2 H2=>tb { D with nx:=N,ct:=N,bk:=D.nx } σ2 H2):=by
 refine ⟨fun i m σ H=>m = min xs.length ys.length - i/\i <= min xs.length ys.length/\Pv i σ H,⟨min xs.length ys.length,by simp,Nat.zero_le _,h0⟩,?_⟩
 rintro i m σ H ⟨rfl,hi,p⟩
 obtain ⟨q,q2⟩:=hl i σ H p
 by_cases hlt:i < min xs.length ys.length
 ·have h1:i < xs.length:=by omega
  have h2:i < ys.length:=by omega
  refine .inr ⟨⟨xs,xs[i],ys,ys[i],q,by simp [h1],q2,by simp [h2]⟩,Pv (i + 1),fun σ' H' p'=>⟨min xs.length ys.length - (i + 1),by omega,rfl,hlt,p'⟩,fun x H' y=>?_⟩
  obtain ⟨t,y,z,ht,hy,hz,rfl,rfl⟩:=y
  exact hs i y z t σ _ (hy xs q) (hz ys q2) ht p
 ·have e:i = min xs.length ys.length:=by omega
  subst e
  exact .inl ⟨⟨xs,ys,q,q2,by omega⟩,hd σ H p⟩
theorem CP.rev {K:PySem.W.Frag} {σ:St} {H:Hp} {Q:VK} {D a:Addr} {g:TG} {tc:TT} {te:TE} {k:Nat} {fr:List Nat} (xs:List V) (Pv:Nat->Hp->Prop)
  (h0:Pv 0 H) (hl:∀ i H',Pv i H'->SqL K H' a xs)
  (hs:∀ i x H' (N:Hp->Prop),xs.reverse[i]? = some x->Pv i H'->(∀ H'',Pv (i + 1) H''->N H'')->g x (compσ k fr σ) H' fun σ2 H2=>σ2.drop k = (compσ k fr σ).drop k/\tc σ2 H2 fun b H3 =>
   if b = true then te σ2 H3 (fun y H4=>∃ ys,H4 D = some (.lst ys)/\ys.length < sizeLine/\N (upd H4 D (.lst (ys ++ [y])))) else N H3)
  (hd:∀ H',Pv xs.length H'->Q (.ref D) H'):CP (Itv K a xs.length) D g tc te k fr σ H Q:=by
 refine ⟨fun i m H=>m = xs.length - i/\i <= xs.length/\Pv i H,⟨xs.length,by simp,Nat.zero_le _,h0⟩,?_⟩
 rintro i m H ⟨rfl,hi,p⟩
 have q:=hl i H p
 by_cases hlt:i < xs.length
 ·refine .inr ⟨⟨hlt,xs,q,rfl⟩,fun x H' y=>?_⟩
  obtain ⟨rfl,hy⟩:=y
  exact hs i x H' (fun H''=>∃ m',m' < xs.length - i/\m' = xs.length - (i + 1)/\i + 1 <= xs.length/\Pv (i + 1) H'') (by rw [List.getElem?_reverse hlt]; exact hy xs q) p fun H'' p''=>⟨xs.length - (i + 1),by omega,rfl,hlt,p''⟩
 ·have e:i = xs.length:=by omega
  subst e
  exact .inl ⟨Nat.le_refl _,hd H p⟩
end
end L2
set_option Elab.async false
set_option linter.all false
set_option maxRecDepth 100000
set_option maxHeartbeats 4000000
namespace My
open PySem L2
def top (i:Nat):Stmt:=PySem.Challenge.pw_bothhands_k23_no_way.main.body.getD i (.Pass ⟨0,0,0,0⟩)
abbrev Rw:Stmt:=top 39
theorem AkO:Cb ["_law_script","_law_k"] ["_law_script","_law_k"] (Bd Rw):=⟨rfl,rfl,rfl,by decide +kernel,rfl,by decide +kernel,by decide +kernel⟩
abbrev Ob:Stmt:=top 40
theorem sc_qbi:Cb ["_law_script","_law_low","_law_step","_law_by"] ["_law_script"] (Bd Ob):=⟨rfl,rfl,rfl,by decide +kernel,rfl,by decide +kernel,by decide +kernel⟩
abbrev Nm:Stmt:=top 41
theorem sc_qbe:Cb ["_law_signs_here","_law_cell","_law_unit","_law_rows","_law_k"] ["_law_signs_here","_law_cell","_law_unit"] (Bd Nm):=⟨rfl,rfl,rfl,by decide +kernel,rfl,by decide +kernel,by decide +kernel⟩
abbrev Nj:Stmt:=top 42
theorem sc_qbb:Cb ["_law_signs_here","_law_cell","_law_rows","_law_k"] ["_law_signs_here","_law_cell"] (Bd Nj):=⟨rfl,rfl,rfl,by decide +kernel,rfl,by decide +kernel,by decide +kernel⟩
abbrev Nv:Stmt:=top 43
theorem sc_qbc:Cb ["_law_rows","_law_signs_here","_law_marks_here","_law_cell","_law_joins_here","_law_k","_law_base","_law_mark"] ["_law_rows","_law_signs_here","_law_marks_here","_law_cell"] (Bd Nv):=⟨rfl,rfl,rfl,by decide +kernel,rfl,by decide +kernel,by decide +kernel⟩
abbrev Oe:Stmt:=top 44
theorem sc_qbd:Cb ["_law_script","_law_signs_here","_law_cell","_law_unit","_law_marks_here","_law_bases_here","_law_joins_here","_law_some","_law_told","_law_turn","_law_mates"] ["_law_script"] (Bd Oe):=⟨rfl,rfl,rfl,by decide +kernel,rfl,by decide +kernel,by decide +kernel⟩
abbrev Nx:Stmt:=top 46
theorem sc_qbh:Cb ["_law_lists_here","_law_ranks_here","_law_sign","_law_kind","_law_rank"] ["_law_lists_here"] (Bd Nx):=⟨rfl,rfl,rfl,by decide +kernel,rfl,by decide +kernel,by decide +kernel⟩
abbrev Ni:Stmt:=top 47
theorem sc_qbg:Cb ["_law_lists_here","_law_parts_here","_law_whole","_law_base","_law_mark"] ["_law_lists_here"] (Bd Ni):=⟨rfl,rfl,rfl,by decide +kernel,rfl,by decide +kernel,by decide +kernel⟩
abbrev Rk:Stmt:=top 24
theorem Alw:Cb ["held","words"] ["held","words"] (Bd Rk):=⟨rfl,rfl,rfl,by decide +kernel,rfl,by decide +kernel,by decide +kernel⟩
abbrev Ry:Stmt:=top 25
theorem sc_qf:Cb ["rows","length","row"] ["rows","length"] (Bd Ry):=⟨rfl,rfl,rfl,by decide +kernel,rfl,by decide +kernel,by decide +kernel⟩
abbrev Rx:Stmt:=top 18
theorem AkL:Cb ["thing"] ["thing"] (Bd Rx):=⟨rfl,rfl,rfl,by decide +kernel,rfl,by decide +kernel,by decide +kernel⟩
abbrev Nk:Stmt:=top 19
theorem AjL:Cb ["thing"] ["thing"] (Bd Nk):=⟨rfl,rfl,rfl,by decide +kernel,rfl,by decide +kernel,by decide +kernel⟩
abbrev Nr:Stmt:=top 29
theorem AiJ:Cb ["kinds","sign","kind"] ["kinds","sign","kind"] (Bd Nr):=⟨rfl,rfl,rfl,by decide +kernel,rfl,by decide +kernel,by decide +kernel⟩
abbrev Ra:Stmt:=top 26
theorem Alh:Cb ["thing"] ["thing"] (Bd Ra):=⟨rfl,rfl,rfl,by decide +kernel,rfl,by decide +kernel,by decide +kernel⟩
abbrev Sf:Stmt:=top 27
theorem Alt:Cb ["kind","thing"] ["kind","thing"] (Bd Sf):=⟨rfl,rfl,rfl,by decide +kernel,rfl,by decide +kernel,by decide +kernel⟩
abbrev Qt:Stmt:=top 30
theorem sc_qq:Cb ["signs","mates","kinds","sign","kind","rank","first","second"] ["signs","mates"] (Bd Qt):=⟨rfl,rfl,rfl,by decide +kernel,rfl,by decide +kernel,by decide +kernel⟩
abbrev Qu:Stmt:=top 31
theorem sc_qu:Cb ["signs","ranks","sign","kind","rank"] ["signs"] (Bd Qu):=⟨rfl,rfl,rfl,by decide +kernel,rfl,by decide +kernel,by decide +kernel⟩
abbrev Qs:Stmt:=top 32
theorem sc_qz:Cb ["mates","found","first","second"] ["mates"] (Bd Qs):=⟨rfl,rfl,rfl,by decide +kernel,rfl,by decide +kernel,by decide +kernel⟩
abbrev Sa:Stmt:=top 28
theorem Ak6:Cb ["kinds","sign"] ["kinds","sign"] (Bd Sa):=⟨rfl,rfl,rfl,by decide +kernel,rfl,by decide +kernel,by decide +kernel⟩
abbrev Rr:Stmt:=top 33
theorem sc_qn:Cb ["kinds","whole","base","mark","kind"] ["kinds","whole","base","mark"] (Bd Rr):=⟨rfl,rfl,rfl,by decide +kernel,rfl,by decide +kernel,by decide +kernel⟩
abbrev Rv:Stmt:=top 34
theorem sc_qg:Cb ["pairs","whole","sign","going"] ["pairs","whole"] (Bd Rv):=⟨rfl,rfl,rfl,by decide +kernel,rfl,by decide +kernel,by decide +kernel⟩
abbrev Qv:Stmt:=top 35
theorem sc_qt:Cb ["kinds","joins","pairs","whole","base","mark"] ["kinds","joins"] (Bd Qv):=⟨rfl,rfl,rfl,by decide +kernel,rfl,by decide +kernel,by decide +kernel⟩
abbrev Sb:Stmt:=top 36
theorem sc_qk:Cb ["pairs","wholes","whole","pair"] ["pairs"] (Bd Sb):=⟨rfl,rfl,rfl,by decide +kernel,rfl,by decide +kernel,by decide +kernel⟩
abbrev Qx:Stmt:=Tp (top 37) 0
theorem Als:Cb ["self","signs","mates","joins"] ["self","signs","mates","joins"] (Bd Qx):=⟨rfl,rfl,rfl,by decide +kernel,rfl,by decide +kernel,by decide +kernel⟩
abbrev No:Stmt:=top 45
theorem sc_qbo:Cb ["_law_cells","_law_lists_here","_law_some","_law_marks_here","_law_pair","_law_text_here","_law_cell"] ["_law_cells","_law_lists_here"] (Bd No):=⟨rfl,rfl,rfl,by decide +kernel,rfl,by decide +kernel,by decide +kernel⟩
abbrev Od:Stmt:=top 49
theorem sc_qbj:Cb ["_law_text_here","_law_ranks_here","_law_some","_law_sign"] ["_law_text_here","_law_ranks_here"] (Bd Od):=⟨rfl,rfl,rfl,by decide +kernel,rfl,by decide +kernel,by decide +kernel⟩
abbrev Ro:Stmt:=top 48
theorem sc_qr:Cb ["_law_text_here","_law_parts_here","_law_signs_here","_law_sign","_law_chain","_law_mark"] ["_law_text_here","_law_parts_here"] (Bd Ro):=⟨rfl,rfl,rfl,by decide +kernel,rfl,by decide +kernel,by decide +kernel⟩
abbrev Oa:Stmt:=top 50
theorem sc_qba:Cb ["_law_one","_law_other_here","_law_ranks_here","_law_parts_here","_law_here","_law_there","_law_k","_law_sign","_law_rank","_law_own"] ["_law_one","_law_other_here","_law_ranks_here","_law_parts_here"] (Bd Oa):=⟨rfl,rfl,rfl,by decide +kernel,rfl,by decide +kernel,by decide +kernel⟩
abbrev Nt:Stmt:=top 51
theorem sc_qbf:Cb ["_law_text_here","_law_lists_here","_law_ranks_here","_law_cell","_law_ranked","_law_some","_law_signs_here","_law_at","_law_sign","_law_k"] ["_law_text_here","_law_lists_here","_law_ranks_here","_law_cell"] (Bd Nt):=⟨rfl,rfl,rfl,by decide +kernel,rfl,by decide +kernel,by decide +kernel⟩
abbrev Si:Stmt:=Tp (top 37) 1
theorem AkI:Cb ["self","sign"] ["self","sign"] (Bd Si):=⟨rfl,rfl,rfl,by decide +kernel,rfl,by decide +kernel,by decide +kernel⟩
abbrev Nz:Stmt:=top 5
theorem sc_qbm:Cb ["book","text","wholes","sign"] ["book","text"] (Bd Nz):=⟨rfl,rfl,rfl,by decide +kernel,rfl,by decide +kernel,by decide +kernel⟩
abbrev Qw:Stmt:=Tp (top 37) 2
theorem Akk:Cb ["self","sign"] ["self","sign"] (Bd Qw):=⟨rfl,rfl,rfl,by decide +kernel,rfl,by decide +kernel,by decide +kernel⟩
abbrev Sj:Stmt:=Tp (top 37) 4
theorem Akq:Cb ["self","sign"] ["self","sign"] (Bd Sj):=⟨rfl,rfl,rfl,by decide +kernel,rfl,by decide +kernel,by decide +kernel⟩
abbrev Ru:Stmt:=top 7
theorem sc_ql:Cb ["book","sign","base","marks","pair"] ["book","sign"] (Bd Ru):=⟨rfl,rfl,rfl,by decide +kernel,rfl,by decide +kernel,by decide +kernel⟩
abbrev Qy:Stmt:=top 8
theorem Ak9:Cb ["book","whole"] ["book","whole"] (Bd Qy):=⟨rfl,rfl,rfl,by decide +kernel,rfl,by decide +kernel,by decide +kernel⟩
abbrev Nl:Stmt:=top 9
theorem sc_qbk:Cb ["book","text","signs","whole"] ["book","text"] (Bd Nl):=⟨rfl,rfl,rfl,by decide +kernel,rfl,by decide +kernel,by decide +kernel⟩
abbrev Se:Stmt:=top 11
theorem sc_qb:Cb ["book","signs","at","ranks","turns","k","rank","passed"] ["book","signs","at"] (Bd Se):=⟨rfl,rfl,rfl,by decide +kernel,rfl,by decide +kernel,by decide +kernel⟩
abbrev Rt:Stmt:=top 12
theorem sc_qe:Cb ["book","whole","at","first","opens"] ["book","whole","at"] (Bd Rt):=⟨rfl,rfl,rfl,by decide +kernel,rfl,by decide +kernel,by decide +kernel⟩
abbrev Nn:Stmt:=top 13
theorem Akg:Cb ["step"] ["step"] (Bd Nn):=⟨rfl,rfl,rfl,by decide +kernel,rfl,by decide +kernel,by decide +kernel⟩
abbrev Nu:Stmt:=top 14
theorem Ah4:Cb ["way"] ["way"] (Bd Nu):=⟨rfl,rfl,rfl,by decide +kernel,rfl,by decide +kernel,by decide +kernel⟩
abbrev Re:Stmt:=top 15
theorem Aks:Cb ["book","one","other","at"] ["book","one","other","at"] (Bd Re):=⟨rfl,rfl,rfl,by decide +kernel,rfl,by decide +kernel,by decide +kernel⟩
abbrev Og:Stmt:=top 16
theorem sc_qbr:Cb ["book","one","other","way","at","whole","wanted"] ["book","one","other"] (Bd Og):=⟨rfl,rfl,rfl,by decide +kernel,rfl,by decide +kernel,by decide +kernel⟩
abbrev Jo:Stmt:=top 52
theorem sc_qbt:Cb ["_law_script","_law_lists_here","_law_ranks_here","_law_parts_here","_law_book","_law_one","_law_other_here","_law_cell","_law_due","_law_pair","_law_there"] ["_law_script"] (Bd Jo):=⟨rfl,rfl,rfl,by decide +kernel,rfl,by decide +kernel,by decide +kernel⟩
structure Adr where
 f_qj:Addr
 d_qj:FuncData
 f_qbi:Addr
 d_qbi:FuncData
 f_qbe:Addr
 d_qbe:FuncData
 f_qbb:Addr
 d_qbb:FuncData
 f_qbc:Addr
 d_qbc:FuncData
 f_qbd:Addr
 d_qbd:FuncData
 f_qbh:Addr
 d_qbh:FuncData
 f_qbg:Addr
 d_qbg:FuncData
 f_qd:Addr
 d_qd:FuncData
 f_qf:Addr
 d_qf:FuncData
 f_qa:Addr
 d_qa:FuncData
 f_qbq:Addr
 d_qbq:FuncData
 f_qbn:Addr
 d_qbn:FuncData
 f_qh:Addr
 d_qh:FuncData
 f_qo:Addr
 d_qo:FuncData
 f_qq:Addr
 d_qq:FuncData
 f_qu:Addr
 d_qu:FuncData
 f_qz:Addr
 d_qz:FuncData
 f_qp:Addr
 d_qp:FuncData
 f_qn:Addr
 d_qn:FuncData
 f_qg:Addr
 d_qg:FuncData
 f_qt:Addr
 d_qt:FuncData
 f_qk:Addr
 d_qk:FuncData
 f_qv:Addr
 d_qv:FuncData
 f_qbo:Addr
 d_qbo:FuncData
 f_qbj:Addr
 d_qbj:FuncData
 f_qr:Addr
 d_qr:FuncData
 f_qba:Addr
 d_qba:FuncData
 f_qbf:Addr
 d_qbf:FuncData
 f_qw:Addr
 d_qw:FuncData
 f_qbm:Addr
 d_qbm:FuncData
 f_qy:Addr
 d_qy:FuncData
 f_qm:Addr
 d_qm:FuncData
 f_ql:Addr
 d_ql:FuncData
 f_qs:Addr
 d_qs:FuncData
 f_qbk:Addr
 d_qbk:FuncData
 f_qb:Addr
 d_qb:FuncData
 f_qe:Addr
 d_qe:FuncData
 f_qbl:Addr
 d_qbl:FuncData
 f_qbp:Addr
 d_qbp:FuncData
 f_qc:Addr
 d_qc:FuncData
 f_qbr:Addr
 d_qbr:FuncData
 f_qbt:Addr
 d_qbt:FuncData
 C_Book:Addr
 a_JOINED_KINDS:Addr
 a_TOLD_KINDS:Addr
structure Txt (K:PySem.W.Frag) (mg:Str->Option Value) (t:Adr):Prop where
 F_qj:Fun K "_law_cell_at" "_law_cell_at" Rw t.f_qj t.d_qj
 m_qj:mg "_law_cell_at" = some (.ref t.f_qj)
 F_qbi:Fun K "_law_signs" "_law_signs" Ob t.f_qbi t.d_qbi
 m_qbi:mg "_law_signs" = some (.ref t.f_qbi)
 F_qbe:Fun K "_law_marks" "_law_marks" Nm t.f_qbe t.d_qbe
 m_qbe:mg "_law_marks" = some (.ref t.f_qbe)
 F_qbb:Fun K "_law_bases" "_law_bases" Nj t.f_qbb t.d_qbb
 m_qbb:mg "_law_bases" = some (.ref t.f_qbb)
 F_qbc:Fun K "_law_joins" "_law_joins" Nv t.f_qbc t.d_qbc
 m_qbc:mg "_law_joins" = some (.ref t.f_qbc)
 F_qbd:Fun K "_law_lists" "_law_lists" Oe t.f_qbd t.d_qbd
 m_qbd:mg "_law_lists" = some (.ref t.f_qbd)
 F_qbh:Fun K "_law_ranks" "_law_ranks" Nx t.f_qbh t.d_qbh
 m_qbh:mg "_law_ranks" = some (.ref t.f_qbh)
 F_qbg:Fun K "_law_parts" "_law_parts" Ni t.f_qbg t.d_qbg
 m_qbg:mg "_law_parts" = some (.ref t.f_qbg)
 F_qd:Fun K "refuse_unless" "refuse_unless" Rk t.f_qd t.d_qd
 m_qd:mg "refuse_unless" = some (.ref t.f_qd)
 F_qf:Fun K "check_tuples" "check_tuples" Ry t.f_qf t.d_qf
 m_qf:mg "check_tuples" = some (.ref t.f_qf)
 F_qa:Fun K "is_whole_number" "is_whole_number" Rx t.f_qa t.d_qa
 m_qa:mg "is_whole_number" = some (.ref t.f_qa)
 F_qbq:Fun K "is_sign" "is_sign" Nk t.f_qbq t.d_qbq
 m_qbq:mg "is_sign" = some (.ref t.f_qbq)
 F_qbn:Fun K "add_kind" "add_kind" Nr t.f_qbn t.d_qbn
 m_qbn:mg "add_kind" = some (.ref t.f_qbn)
 F_qh:Fun K "is_told_kind" "is_told_kind" Ra t.f_qh t.d_qh
 m_qh:mg "is_told_kind" = some (.ref t.f_qh)
 F_qo:Fun K "is_rank_of" "is_rank_of" Sf t.f_qo t.d_qo
 m_qo:mg "is_rank_of" = some (.ref t.f_qo)
 F_qq:Fun K "kinds_told" "kinds_told" Qt t.f_qq t.d_qq
 m_qq:mg "kinds_told" = some (.ref t.f_qq)
 F_qu:Fun K "ranks_told" "ranks_told" Qu t.f_qu t.d_qu
 m_qu:mg "ranks_told" = some (.ref t.f_qu)
 F_qz:Fun K "both_ways" "both_ways" Qs t.f_qz t.d_qz
 m_qz:mg "both_ways" = some (.ref t.f_qz)
 F_qp:Fun K "kind_among" "kind_among" Sa t.f_qp t.d_qp
 m_qp:mg "kind_among" = some (.ref t.f_qp)
 F_qn:Fun K "check_join" "check_join" Rr t.f_qn t.d_qn
 m_qn:mg "check_join" = some (.ref t.f_qn)
 F_qg:Fun K "ends_in_time" "ends_in_time" Rv t.f_qg t.d_qg
 m_qg:mg "ends_in_time" = some (.ref t.f_qg)
 F_qt:Fun K "pairs_told" "pairs_told" Qv t.f_qt t.d_qt
 m_qt:mg "pairs_told" = some (.ref t.f_qt)
 F_qk:Fun K "wholes_told" "wholes_told" Sb t.f_qk t.d_qk
 m_qk:mg "wholes_told" = some (.ref t.f_qk)
 F_qv:Fun K "__init__" "Book.__init__" Qx t.f_qv t.d_qv
 F_qbo:Fun K "_law_text" "_law_text" No t.f_qbo t.d_qbo
 m_qbo:mg "_law_text" = some (.ref t.f_qbo)
 F_qbj:Fun K "_law_split" "_law_split" Od t.f_qbj t.d_qbj
 m_qbj:mg "_law_split" = some (.ref t.f_qbj)
 F_qr:Fun K "_law_opened" "_law_opened" Ro t.f_qr t.d_qr
 m_qr:mg "_law_opened" = some (.ref t.f_qr)
 F_qba:Fun K "_law_alike" "_law_alike" Oa t.f_qba t.d_qba
 m_qba:mg "_law_alike" = some (.ref t.f_qba)
 F_qbf:Fun K "_law_other" "_law_other" Nt t.f_qbf t.d_qbf
 m_qbf:mg "_law_other" = some (.ref t.f_qbf)
 F_qw:Fun K "kind" "Book.kind" Si t.f_qw t.d_qw
 M_qw:Yz K t.C_Book "kind" t.f_qw
 F_qbm:Fun K "wholes_of" "wholes_of" Nz t.f_qbm t.d_qbm
 m_qbm:mg "wholes_of" = some (.ref t.f_qbm)
 F_qy:Fun K "rank" "Book.rank" Qw t.f_qy t.d_qy
 M_qy:Yz K t.C_Book "rank" t.f_qy
 B_qy:Bnd K t.C_Book "rank" t.f_qy
 F_qm:Fun K "parts" "Book.parts" Sj t.f_qm t.d_qm
 M_qm:Yz K t.C_Book "parts" t.f_qm
 F_ql:Fun K "written_out" "written_out" Ru t.f_ql t.d_ql
 m_ql:mg "written_out" = some (.ref t.f_ql)
 F_qs:Fun K "long_whole" "long_whole" Qy t.f_qs t.d_qs
 m_qs:mg "long_whole" = some (.ref t.f_qs)
 F_qbk:Fun K "long_form" "long_form" Nl t.f_qbk t.d_qbk
 m_qbk:mg "long_form" = some (.ref t.f_qbk)
 F_qb:Fun K "turns_to_sorted" "turns_to_sorted" Se t.f_qb t.d_qb
 m_qb:mg "turns_to_sorted" = some (.ref t.f_qb)
 F_qe:Fun K "whole_to_long" "whole_to_long" Rt t.f_qe t.d_qe
 m_qe:mg "whole_to_long" = some (.ref t.f_qe)
 F_qbl:Fun K "step_back" "step_back" Nn t.f_qbl t.d_qbl
 m_qbl:mg "step_back" = some (.ref t.f_qbl)
 F_qbp:Fun K "way_back" "way_back" Nu t.f_qbp t.d_qbp
 m_qbp:mg "way_back" = some (.ref t.f_qbp)
 F_qc:Fun K "whole_to_whole" "whole_to_whole" Re t.f_qc t.d_qc
 m_qc:mg "whole_to_whole" = some (.ref t.f_qc)
 F_qbr:Fun K "way_to" "way_to" Og t.f_qbr t.d_qbr
 m_qbr:mg "way_to" = some (.ref t.f_qbr)
 F_qbt:Fun K "law" "law" Jo t.f_qbt t.d_qbt
 m_qbt:mg "law" = some (.ref t.f_qbt)
 m_Book:mg "Book" = some (.ref t.C_Book)
 cl_Book:Cls K t.C_Book
 K_Book:Mk K t.C_Book t.f_qv
 n_Book_kinds:NoAttr K t.C_Book "kinds"
 n_Book_ranks:NoAttr K t.C_Book "ranks"
 n_Book_mates:NoAttr K t.C_Book "mates"
 n_Book_pairs:NoAttr K t.C_Book "pairs"
 n_Book_wholes:NoAttr K t.C_Book "wholes"
 z_bool:mg "bool" = none
 z_enumerate:mg "enumerate" = none
 z_int:mg "int" = none
 z_isinstance:mg "isinstance" = none
 z_len:mg "len" = none
 z_list:mg "list" = none
 z_range:mg "range" = none
 z_reversed:mg "reversed" = none
 z_sorted:mg "sorted" = none
 z_str:mg "str" = none
 z_tuple:mg "tuple" = none
 z_zip:mg "zip" = none
 g_JOINED_KINDS:mg "JOINED_KINDS" = some (.ref t.a_JOINED_KINDS)
 q_JOINED_KINDS:∀ H,SqT K H t.a_JOINED_KINDS [.str "fore",.str "back",.str "num",.str "blank",.str "plain"]
 g_MOST_GOINGS:∃ u,mg "MOST_GOINGS" = some u/\RelV (.int 7) u
 g_TOLD_KINDS:mg "TOLD_KINDS" = some (.ref t.a_TOLD_KINDS)
 q_TOLD_KINDS:∀ H,SqT K H t.a_TOLD_KINDS [.str "fore",.str "back",.str "num",.str "blank",.str "mark",.str "forein",.str "backin",.str "out"]
abbrev Sg:=Int × Str × Int
def toldK:List Str:=["fore","back","num","blank","mark","forein","backin","out"]
def Uz (k:Str) (r:Int):Prop:=(k = "mark"/\1 <= r)\/(¬ k = "mark"/\r = 0)
def TripAt (H:Hp) (x:V) (s:Sg):Prop:=∃ p,x = .ref p/\H p = some (.tup [.int s.1,.str s.2.1,.int s.2.2])
def PairAt (H:Hp) (x:V) (m:Int × Int):Prop:=∃ p,x = .ref p/\H p = some (.tup [.int m.1,.int m.2])
def LAt {β α:Type} (R:Hp->β->α->Prop) (H:Hp) (xs:List β) (ys:List α):Prop:=xs.length = ys.length/\∀ (i:Nat) (x:β) (y:α),xs[i]? = some x->ys[i]? = some y->R H x y
theorem LAt.get {β α:Type} {R:Hp->β->α->Prop} {H:Hp} {xs:List β} {ys:List α} (h:LAt R H xs ys) {i:Nat} {x:β} (e:xs[i]? = some x):∃ y,ys[i]? = some y/\R H x y:=by
 have hi:i < xs.length:=(List.getElem?_eq_some_iff.mp e).1
 have hy:i < ys.length:=by rw [<- h.1]; exact hi
 exact ⟨ys[i],List.getElem?_eq_getElem hy,h.2 i x _ e (List.getElem?_eq_getElem hy)⟩
theorem LAt.mono {β α:Type} {R R':Hp->β->α->Prop} {H H':Hp} {xs:List β} {ys:List α} (h:LAt R H xs ys) (m:∀ x y,R H x y->R' H' x y):LAt R' H' xs ys:=⟨h.1,fun i x y e1 e2=>m x y (h.2 i x y e1 e2)⟩
theorem LAt.snoc {β α:Type} {R:Hp->β->α->Prop} {H:Hp} {xs:List β} {ys:List α} {x:β} {y:α} (h:LAt R H xs ys) (r:R H x y):LAt R H (xs ++ [x]) (ys ++ [y]):=by
 refine ⟨by simp [h.1],fun i u v e1 e2=>?_⟩
 by_cases hi:i < xs.length
 ·rw [List.getElem?_append_left hi] at e1
  rw [List.getElem?_append_left (by rw [<- h.1]; exact hi)] at e2
  exact h.2 i u v e1 e2
 ·rw [List.getElem?_append_right (by omega)] at e1
  rw [List.getElem?_append_right (by rw [<- h.1]; omega),<- h.1] at e2
  have hz:i - xs.length = 0:=by
   have:=(List.getElem?_eq_some_iff.mp e1).1
   simp at this; omega
  rw [hz] at e1 e2
  simp at e1 e2
  rw [<- e1,<- e2]; exact r
theorem LAt.nil {β α:Type} {R:Hp->β->α->Prop} {H:Hp}:LAt R H ([]:List β) ([]:List α):=⟨rfl,fun i x y e=>by simp at e⟩
structure Xj (s:Sg):Prop where
 nn:0 <= s.1
 kd:s.2.1 ∈ toldK
 rk:Uz s.2.1 s.2.2
def kK (signs:List Sg):List (Key × V):=signs.map fun s=>(.inl s.1,.str s.2.1)
def kR (signs:List Sg):List (Key × V):=signs.map fun s=>(.inl s.1,.int s.2.2)
def kM:List (Int × Int)->List (Key × V)
 | []=>[]
 | m :: r=>(.inl m.1,.str "open") :: (.inl m.2,.str "shut") :: kM r
def kB:List (Int × Int)->List (Key × V)
 | []=>[]
 | m :: r=>(.inl m.1,.int m.2) :: (.inl m.2,.int m.1) :: kB r
def ends:List (Int × Int)->List Int
 | []=>[]
 | m :: r=>m.1 :: m.2 :: ends r
theorem Wl (xs ys:List (Int × Int)):kM (xs ++ ys) = kM xs ++ kM ys:=by
 induction xs with
 | nil=>rfl
 | cons x r ih=>simp [kM,ih]
theorem Wq (xs ys:List (Int × Int)):kB (xs ++ ys) = kB xs ++ kB ys:=by
 induction xs with
 | nil=>rfl
 | cons x r ih=>simp [kB,ih]
theorem Aaq (xs:List (Int × Int)):(kM xs).map (·.1) = (ends xs).map Sum.inl:=by
 induction xs with
 | nil=>rfl
 | cons x r ih=>simp [kM,ends,ih]
theorem AgY (xs:List (Int × Int)):(kB xs).map (·.1) = (ends xs).map Sum.inl:=by
 induction xs with
 | nil=>rfl
 | cons x r ih=>simp [kB,ends,ih]
theorem Ajn (xs:List (Int × Int)):(kM xs).length = 2 * xs.length:=by
 induction xs with
 | nil=>rfl
 | cons x r ih=>simp [kM,ih]; omega
theorem Aj4 (xs:List (Int × Int)):(kB xs).length = 2 * xs.length:=by
 induction xs with
 | nil=>rfl
 | cons x r ih=>simp [kB,ih]; omega
theorem Jx {kvs:List (Key × V)} {n:Int} (h:¬ (Sum.inl n:Key) ∈ kvs.map (·.1)):Ci kvs (Sum.inl n) = none:=by
 cases e:Ci kvs (Sum.inl n:Key) with
 | none=>rfl
 | some v=>exact absurd (AaM e) h
theorem Yv {kvs:List (Key × V)} (nd:(kvs.map (·.1)).Nodup) {k:Key} {v:V} (h:(k,v) ∈ kvs):Ci kvs k = some v:=by
 induction kvs with
 | nil=>cases h
 | cons p r ih =>
  have nd':(p.1 :: r.map (·.1)).Nodup:=nd
  obtain ⟨h1,h2⟩:=List.nodup_cons.mp nd'
  rcases List.mem_cons.mp h with e | e
  ·subst e; exact Lw rfl
  ·have:¬ p.1 = k:=fun z=>h1 (by rw [z]; exact List.mem_map.mpr ⟨_,e,rfl⟩)
   rw [Lr this]; exact ih h2 e
theorem Nc {l:List Int} (h:l.Nodup):(l.map (Sum.inl:Int->Key)).Nodup:=by
 induction l with
 | nil=>exact List.nodup_nil
 | cons a r ih =>
  obtain ⟨h1,h2⟩:=List.nodup_cons.mp h
  refine List.nodup_cons.mpr ⟨fun m=>h1 ?_,ih h2⟩
  obtain ⟨b,hb,e⟩:=List.mem_map.mp m
  cases e; exact hb
theorem inl_mem {l:List Int} {n:Int}:(Sum.inl n:Key) ∈ l.map (Sum.inl:Int->Key) ↔ n ∈ l:=by
 constructor
 ·intro m; obtain ⟨b,hb,e⟩:=List.mem_map.mp m; cases e; exact hb
 ·intro m; exact List.mem_map.mpr ⟨n,m,rfl⟩
theorem Dn {n:Nat} (h:n <= 1000):n < sizeLine:=Ly h
theorem Cn {α:Type} {l:List α} {i:Nat} {x:α} (h:l[i]? = some x):l.take (i + 1) = l.take i ++ [x]:=by
 obtain ⟨hi,e⟩:=List.getElem?_eq_some_iff.mp h
 rw [List.take_add_one,List.getElem?_eq_getElem hi,e]
 rfl
theorem Same.new {d:Addr} {H:Hp} {o:HO} (h:H d = none):Same H (upd H d o):=fun q u e=>by rw [Bg (Bm e h)]; exact e
theorem TripAt.mono {H H':Hp} {x:V} {s:Sg} (h:TripAt H x s) (k:∀ q xs,H q = some (.tup xs)->H' q = some (.tup xs)):TripAt H' x s:=by
 obtain ⟨p,e,hp⟩:=h
 exact ⟨p,e,k p _ hp⟩
theorem PairAt.mono {H H':Hp} {x:V} {s:Int × Int} (h:PairAt H x s) (k:∀ q xs,H q = some (.tup xs)->H' q = some (.tup xs)):PairAt H' x s:=by
 obtain ⟨p,e,hp⟩:=h
 exact ⟨p,e,k p _ hp⟩
theorem Ce {CX:CXT} {P:Program} {w:World} {K:PySem.W.Frag} {mg:Str->Option Value} {base:Heap} {N:List Str} {qual:Str} {sc:Scope} {f:Addr} {cd:Value} {A:Around} {outer:List Env} {s:Shared} {H:Hp} {E:XK}:(Up CX P w K mg base N qual sc f cd A outer s H E).K = K:=rfl
section
variable {σ:St} {H:Hp} {Q:VK} {K:PySem.W.Frag} {a d:Addr} {n:Int}
theorem Abi {A B:Prop} (h:B):if (!true) = true then A else B:=Nd h
theorem AbB {A B:Prop} (h:A):if (!false) = true then A else B:=Jr h
theorem Aeg {P:Bool->Prop} (q:P true):∃ x m t b,[V.int n,V.ty "int"] = [x,V.ty m]/\Ge K H x t/\PySem.W.kitOne K t (.type m) = some b/\P b:=⟨_,_,_,_,rfl,.int n,Aag,q⟩
theorem Adc {P:Bool->Prop} (q:P false):∃ x m t b,[V.int n,V.ty "bool"] = [x,V.ty m]/\Ge K H x t/\PySem.W.kitOne K t (.type m) = some b/\P b:=⟨_,_,_,_,rfl,.int n,Zd,q⟩
theorem Afk {z:Str} {P:Bool->Prop} (q:P true):∃ x m t b,[V.str z,V.ty "str"] = [x,V.ty m]/\Ge K H x t/\PySem.W.kitOne K t (.type m) = some b/\P b:=⟨_,_,_,_,rfl,.str z,Aal,q⟩
theorem AhW {xs:List V} (h:H a = some (.lst xs)) {P:Bool->Prop} (q:P true):∃ x m t b,[V.ref a,V.ty "list"] = [x,V.ty m]/\Ge K H x t/\PySem.W.kitOne K t (.type m) = some b/\P b:=⟨_,_,_,_,rfl,.lst h,Xh,q⟩
theorem AkS {xs:List V} (h:H a = some (.tup xs)) {P:Bool->Prop} (q:P true):∃ x m t b,[V.ref a,V.ty "tuple"] = [x,V.ty m]/\Ge K H x t/\PySem.W.kitOne K t (.type m) = some b/\P b:=⟨_,_,_,_,rfl,.tup h,Aai,q⟩
theorem AdY {xs:List V} (h:SqL K H a xs) {P:List V->Prop} (q:P xs):∃ p ys,[V.ref a] = [V.ref p]/\(SqL K H p ys\/SqT K H p ys)/\P ys:=⟨a,xs,rfl,.inl h,q⟩
theorem AiA {xs:List V} (h:H a = some (.tup xs)) {P:List V->Prop} (q:P xs):∃ p ys,[V.ref a] = [V.ref p]/\(SqL K H p ys\/SqT K H p ys)/\P ys:=⟨a,xs,rfl,.inr (SqT.of h),q⟩
theorem Akt {kvs:List (Key × V)} (h:H d = some (.dK kvs)) {P:Option V->Prop} (q:P (Ci kvs (.inl n))):∃ a o,V.ref d = V.ref a/\DGet H a (.int n) o/\P o:=⟨d,_,rfl,DGet.k (k:=Sum.inl n) h,q⟩
theorem AdB {kvs:List (Key × V)} {v:V} {R:Hp->Prop} (h:H d = some (.dK kvs)) (q:R (upd H d (.dK (Gr kvs (.inl n) v)))) (hl:kvs.length < sizeLine):∃ a H4,V.ref d = V.ref a/\DPut H a (.int n) v H4/\R H4:=⟨d,_,rfl,DPut.k (k:=Sum.inl n) h hl,q⟩
theorem AkD {kvs:List (Key × V)} {P:Addr->Prop} (h:H d = some (.dK kvs)) (q:P d):∃ a,V.ref d = V.ref a/\IsD H a/\P a:=⟨d,rfl,.inl ⟨_,.inl h⟩,q⟩
theorem Ah0 {kvs:List (Key × V)} {P:Option V->Prop} (h:H d = some (.dK kvs)) (q:P (Ci kvs (.inl n))):∃ o,DGet H d (.int n) o/\P o:=⟨_,DGet.k (k:=Sum.inl n) h,q⟩
theorem Ako {P:Prop} {xs:List V} (h:H a = some (.lst xs)) (q:P):tyV K "list" (.ref a) H/\P:=⟨.inl ⟨rfl,_,SqL.of h⟩,q⟩
theorem Fk {xs:List V} {i:Int} {v:V} (h:SqL K H a xs) (q:Q v H) (hv:atI xs i = some v):AbY K (.ref a) (.int i) H Q:=⟨a,xs,i,v,rfl,rfl,h,hv,q⟩
theorem Tv {xs:List V} {i:Int} {v:V} (h:H a = some (.tup xs)) (q:Q v H) (hv:atI xs i = some v):AbW K (.ref a) (.int i) H Q:=⟨a,xs,i,v,rfl,rfl,SqT.of h,hv,q⟩
theorem AhG:LEq K H [] [] true:=.inr ⟨rfl,fun _=>true,fun i x y e1=>by simp at e1,rfl⟩
theorem Ald {b:Addr} {xs ys:List V} {k:Bool} (h1:SqL K H a xs) (h2:SqL K H b ys) (hk:LEq K H xs ys k) (q:Q (.bl k) H):Wb K false (.ref a) (.ref b) H Q:=⟨a,b,xs,ys,k,rfl,rfl,h1,h2,hk,q⟩
end
section
variable {S:List Sg} {M:List (Int × Int)} {s:Sg} {m:Int × Int} {n:Int}
theorem Ag8 (s:List Sg):(kK s).map (·.1) = (s.map (·.1)).map Sum.inl:=by simp [kK]
theorem AaB (s:List Sg):(kR s).map (·.1) = (s.map (·.1)).map Sum.inl:=by simp [kR]
theorem Aa8:(kK S ++ kM M).map (·.1) = (S.map (·.1) ++ ends M).map (Sum.inl:Int->Key):=by rw [List.map_append,Ag8,Aaq,<- List.map_append]
theorem Alv (nd:(S.map (·.1) ++ ends M).Nodup):((kK S ++ kM M).map (·.1)).Nodup:=by rw [Aa8]; exact Nc nd
theorem AaI (nd:(S.map (·.1) ++ ends M).Nodup) (h:s ∈ S):(Ci (kK S ++ kM M) (Sum.inl s.1)).getD (.str "plain") = .str s.2.1:=by
 rw [Yv (v:=.str s.2.1) (Alv nd) (List.mem_append_left _ (List.mem_map.mpr ⟨s,h,rfl⟩))]; rfl
theorem AiI (h:¬ n ∈ S.map (·.1) ++ ends M):(Ci (kK S ++ kM M) (Sum.inl n)).getD (.str "plain") = .str "plain":=by
 rw [Jx (by rw [Aa8]; exact fun w=>h (inl_mem.mp w))]; rfl
theorem AjI (h:¬ n ∈ S.map (·.1)):(Ci (kR S) (Sum.inl n)).getD (.int 0) = .int 0:=by
 rw [Jx (by rw [AaB]; exact fun w=>h (inl_mem.mp w))]; rfl
end
abbrev Jn:=Int × Int × Int
def joinedK:List Str:=["fore","back","num","blank","plain"]
def TrjAt (H:Hp) (x:V) (j:Jn):Prop:=∃ p,x = .ref p/\H p = some (.tup [.int j.1,.int j.2.1,.int j.2.2])
def KvAt (H:Hp) (kv:Key × V) (j:Jn):Prop:=kv.1 = Sum.inl j.1/\∃ p,kv.2 = .ref p/\H p = some (.tup [.int j.2.1,.int j.2.2])
theorem TrjAt.mono {H H':Hp} {x:V} {j:Jn} (h:TrjAt H x j) (k:∀ q xs,H q = some (.tup xs)->H' q = some (.tup xs)):TrjAt H' x j:=by
 obtain ⟨p,e,hp⟩:=h
 exact ⟨p,e,k p _ hp⟩
theorem KvAt.mono {H H':Hp} {x:Key × V} {j:Jn} (h:KvAt H x j) (k:∀ q xs,H q = some (.tup xs)->H' q = some (.tup xs)):KvAt H' x j:=by
 obtain ⟨e1,p,e,hp⟩:=h
 exact ⟨e1,p,e,k p _ hp⟩
theorem LAt.tripS {H H':Hp} {xs:List V} {S:List Sg} (h:LAt TripAt H xs S) (s:Same H H'):LAt TripAt H' xs S:=h.mono fun _ _ z=>z.mono fun _ _ e=>s _ _ e
theorem LAt.pairS {H H':Hp} {xs:List V} {S:List (Int × Int)} (h:LAt PairAt H xs S) (s:Same H H'):LAt PairAt H' xs S:=h.mono fun _ _ z=>z.mono fun _ _ e=>s _ _ e
theorem LAt.trjS {H H':Hp} {xs:List V} {S:List Jn} (h:LAt TrjAt H xs S) (s:Same H H'):LAt TrjAt H' xs S:=h.mono fun _ _ z=>z.mono fun _ _ e=>s _ _ e
theorem LAt.kvS {H H':Hp} {xs:List (Key × V)} {S:List Jn} (h:LAt KvAt H xs S) (s:Same H H'):LAt KvAt H' xs S:=h.mono fun _ _ z=>z.mono fun _ _ e=>s _ _ e
theorem LAt.tripC {H H':Hp} {a:Addr} {zs xs:List V} {S:List Sg} (h:LAt TripAt H xs S) (c:Chg a H H') (ha:H a = some (.lst zs)):LAt TripAt H' xs S:=h.mono fun _ _ z=>z.mono fun _ _ e=>c.tup ha e
theorem LAt.trjC {H H':Hp} {a:Addr} {zs xs:List V} {S:List Jn} (h:LAt TrjAt H xs S) (c:Chg a H H') (ha:H a = some (.lst zs)):LAt TrjAt H' xs S:=h.mono fun _ _ z=>z.mono fun _ _ e=>c.tup ha e
theorem LAt.take {β α:Type} {R:Hp->β->α->Prop} {H:Hp} {xs:List β} {ys:List α} (h:LAt R H xs ys) (n:Nat):LAt R H (xs.take n) (ys.take n) :=
 ⟨by rw [List.length_take,List.length_take,h.1],fun i x y e1 e2=>by
  rw [List.getElem?_take] at e1 e2
  split at e1
  ·rename_i hi
   rw [if_pos hi] at e2
   exact h.2 i x y e1 e2
  ·cases e1⟩
theorem LAt.drop {β α:Type} {R:Hp->β->α->Prop} {H:Hp} {xs:List β} {ys:List α} (h:LAt R H xs ys) (n:Nat):LAt R H (xs.drop n) (ys.drop n) :=
 ⟨by rw [List.length_drop,List.length_drop,h.1],fun i x y e1 e2=>by
  rw [List.getElem?_drop] at e1 e2
  exact h.2 _ x y e1 e2⟩
theorem LAt.append {β α:Type} {R:Hp->β->α->Prop} {H:Hp} {xs xs':List β} {ys ys':List α} (h:LAt R H xs ys) (h':LAt R H xs' ys'):LAt R H (xs ++ xs') (ys ++ ys') :=
 ⟨by rw [List.length_append,List.length_append,h.1,h'.1],fun i x y e1 e2=>by
  by_cases hi:i < xs.length
  ·rw [List.getElem?_append_left hi] at e1
   rw [List.getElem?_append_left (by rw [<- h.1]; exact hi)] at e2
   exact h.2 i x y e1 e2
  ·rw [List.getElem?_append_right (by omega)] at e1
   rw [List.getElem?_append_right (by rw [<- h.1]; omega),<- h.1] at e2
   exact h'.2 _ x y e1 e2⟩
theorem Jt {α:Type}:∀ {l:List α},(∀ (i j:Nat) (x:α),l[i]? = some x->l[j]? = some x->i = j)->l.Nodup
 | [],_=>List.nodup_nil
 | a :: r,h=>List.nodup_cons.mpr ⟨fun m=>by
   obtain ⟨j,hj⟩:=List.getElem?_of_mem m
   have:=h 0 (j + 1) a rfl (by simpa using hj)
   omega,Jt fun i j x h1 h2=>by
   have:=h (i + 1) (j + 1) x (by simpa using h1) (by simpa using h2)
   omega⟩
theorem LAt.uncons {β α:Type} {R:Hp->β->α->Prop} {H:Hp} {x:β} {xs:List β} {y:α} {ys:List α} (h:LAt R H (x :: xs) (y :: ys)):R H x y/\LAt R H xs ys :=
 ⟨h.2 0 x y rfl rfl,by simpa using h.1,fun i u v e1 e2=>h.2 (i + 1) u v e1 e2⟩
def Ct:List Jn->Int->Option (Int × Int)
 | [],_=>none
 | j :: r,n=>if j.1 = n then some j.2 else Ct r n
def Fa (J:List Jn) (n:Int):Int:=match Ct J n with | some m=>m.1 | none=>n
def jGo (J:List Jn):Nat->Int->Int
 | 0,n=>n
 | k + 1,n=>Fa J (jGo J k n)
theorem Lc {J:List Jn} {n:Int} {m:Int × Int} (h:Ct J n = some m):(n,m) ∈ J:=by
 induction J with
 | nil=>cases h
 | cons x r ih =>
  unfold Ct at h
  split at h
  ·rename_i e
   cases h
   rw [<- e]; exact List.mem_cons_self
  ·exact List.mem_cons_of_mem _ (ih h)
theorem Vi {H:Hp} {kvs:List (Key × V)} {J:List Jn} (h:LAt KvAt H kvs J) (n:Int) :
  (Ct J n = none/\Ci kvs (Sum.inl n) = none)\/∃ m p,Ct J n = some m/\Ci kvs (Sum.inl n) = some (.ref p)/\H p = some (.tup [.int m.1,.int m.2]):=by
 induction kvs generalizing J with
 | nil =>
  cases J with
  | nil=>exact .inl ⟨rfl,rfl⟩
  | cons j r=>have:=h.1; simp at this
 | cons kv ks ih =>
  cases J with
  | nil=>have:=h.1; simp at this
  | cons j r =>
   obtain ⟨⟨h1,p,e,hp⟩,h3⟩:=h.uncons
   unfold Ct
   by_cases z:j.1 = n
   ·rw [if_pos z]
    exact .inr ⟨j.2,p,rfl,by rw [Lw (by rw [h1,z]),e],hp⟩
   ·rw [if_neg z,Lr (by rw [h1]; intro w; exact z (Sum.inl.inj w))]
    exact ih h3
def kW (J:List Jn):List (List Key × V):=J.map fun j=>([Sum.inl j.2.1,Sum.inl j.2.2],V.int j.1)
theorem AkW {J:List Jn} {a b:Int} (h:¬ (a,b) ∈ J.map (·.2)):Ci (kW J) [Sum.inl a,Sum.inl b] = none:=by
 cases e:Ci (kW J) ([Sum.inl a,Sum.inl b]:List Key) with
 | none=>rfl
 | some v =>
  have:=AaM e
  unfold kW at this
  rw [List.map_map] at this
  obtain ⟨j,hj,z⟩:=List.mem_map.mp this
  have z':([Sum.inl j.2.1,Sum.inl j.2.2]:List Key) = [Sum.inl a,Sum.inl b]:=z
  injection z' with z1 z2
  injection z2 with z3 z4
  exact absurd (List.mem_map.mpr ⟨j,hj,Prod.ext (Sum.inl.inj z1) (Sum.inl.inj z3)⟩) h
def knd (kk:List (Key × V)) (n:Int):V:=(Ci kk (Sum.inl n)).getD (.str "plain")
structure Yr (kk:List (Key × V)) (J:List Jn):Prop where
 nn:∀ j ∈ J,0 <= j.1/\0 <= j.2.1/\0 <= j.2.2
 mr:∀ j ∈ J,knd kk j.2.2 = .str "mark"
 kd:∀ j ∈ J,∃ k ∈ joinedK,knd kk j.1 = .str k/\knd kk j.2.1 = .str k
 nw:(J.map (·.1)).Nodup
 np:(J.map (·.2)).Nodup
 en:∀ j ∈ J,Ct J (jGo J 7 j.1) = none
 ln:J.length <= 400
theorem AiU {c A B:Prop} [Decidable c] (hc:c) (h:A):if decide c = true then A else B:=by
 rw [if_pos (decide_eq_true hc)]; exact h
theorem Aer {H:Hp} {a:Addr} {u o:HO} (h:H a = some u):upd (upd H a o) a u = H:=by
 rw [Gh]; funext b; unfold upd; split
 ·rename_i e; rw [e,h]
 ·rfl
theorem Ajd {H:Hp} {a:Addr} {u:HO} {o:Obj}:Rd (upd H a (.frz o u)) a u:=.inr ⟨o,Bl⟩
theorem Sd {α:Type} {l:List α} {i:Nat} {x:α} (nd:l.Nodup) (h:l[i]? = some x):¬ x ∈ l.take i:=by
 obtain ⟨hi,e⟩:=List.getElem?_eq_some_iff.mp h
 rw [<- List.take_append_drop i l,List.drop_eq_getElem_cons hi,e] at nd
 intro m
 exact (List.nodup_append.mp nd).2.2 _ m _ List.mem_cons_self rfl
theorem Ld {α β:Type} {l:List α} {f:α->β} {i:Nat} {x:α} (nd:(l.map f).Nodup) (h:l[i]? = some x):¬ f x ∈ (l.take i).map f:=by
 rw [List.map_take]
 exact Sd nd (by rw [List.getElem?_map,h]; rfl)
def bkF (dk dr dm dp dw:Addr):List (Str × V):=Bu "wholes" (.ref dw) (Bu "pairs" (.ref dp) (Bu "mates" (.ref dm) (Bu "ranks" (.ref dr) (Bu "kinds" (.ref dk) []))))
theorem AcH {dk dr dm dp dw:Addr}:(bkF dk dr dm dp dw).lookup ("kinds" : Str) = some (.ref dk):=by
 unfold bkF
 rw [Cf,if_neg (by decide +kernel),Cf,if_neg (by decide +kernel),Cf,if_neg (by decide +kernel),Cf,if_neg (by decide +kernel),Cf,if_pos rfl]
theorem Ab2 {dk dr dm dp dw:Addr}:(bkF dk dr dm dp dw).lookup ("ranks" : Str) = some (.ref dr):=by
 unfold bkF
 rw [Cf,if_neg (by decide +kernel),Cf,if_neg (by decide +kernel),Cf,if_neg (by decide +kernel),Cf,if_pos rfl]
theorem AdC {dk dr dm dp dw:Addr}:(bkF dk dr dm dp dw).lookup ("pairs" : Str) = some (.ref dp):=by
 unfold bkF
 rw [Cf,if_neg (by decide +kernel),Cf,if_pos rfl]
theorem Ym {dk dr dm dp dw:Addr} {m:Str} (h1:¬ m = "wholes") (h2:¬ m = "pairs") (h3:¬ m = "mates") (h4:¬ m = "ranks") (h5:¬ m = "kinds"):(bkF dk dr dm dp dw).lookup m = none:=by
 unfold bkF
 rw [Cf,if_neg h1,Cf,if_neg h2,Cf,if_neg h3,Cf,if_neg h4,Cf,if_neg h5]
 rfl
theorem Aec {dk dr dm dp dw:Addr}:(bkF dk dr dm dp dw).lookup ("kind" : Str) = none:=Ym (by decide +kernel) (by decide +kernel) (by decide +kernel) (by decide +kernel) (by decide +kernel)
theorem Uh {dk dr dm dp dw:Addr}:(bkF dk dr dm dp dw).lookup ("rank" : Str) = none:=Ym (by decide +kernel) (by decide +kernel) (by decide +kernel) (by decide +kernel) (by decide +kernel)
theorem Wu {dk dr dm dp dw:Addr}:(bkF dk dr dm dp dw).lookup ("parts" : Str) = none:=Ym (by decide +kernel) (by decide +kernel) (by decide +kernel) (by decide +kernel) (by decide +kernel)
def BookAt (C:Addr) (H:Hp) (b:Addr) (k r m p:List (Key × V)) (w:List (List Key × V)):Prop :=
 ∃ dx dk dr dm dp dw,H b = some (.ins C dx (bkF dk dr dm dp dw))/\H dk = some (.dK k)/\H dr = some (.dK r)/\H dm = some (.dK m)/\H dp = some (.dK p)/\H dw = some (.dT w)
theorem BookAt.mono {C:Addr} {H H':Hp} {b:Addr} {k r m p:List (Key × V)} {w:List (List Key × V)} (h:BookAt C H b k r m p w) (s:∀ q o,H q = some o->(∀ xs,o ≠ .lst xs)->H' q = some o):BookAt C H' b k r m p w:=by
 obtain ⟨dx,dk,dr,dm,dp,dw,h1,h2,h3,h4,h5,h6⟩:=h
 exact ⟨dx,dk,dr,dm,dp,dw,s _ _ h1 (fun _ z=>nomatch z),s _ _ h2 (fun _ z=>nomatch z),s _ _ h3 (fun _ z=>nomatch z),s _ _ h4 (fun _ z=>nomatch z),s _ _ h5 (fun _ z=>nomatch z),s _ _ h6 (fun _ z=>nomatch z)⟩
theorem Vc {C b:Addr} {H:Hp} {k r m p:List (Key × V)} {w:List (List Key × V)} {nm:Str} {P:Prop} (h:BookAt C H b k r m p w) (hm:∀ {dk dr dm dp dw:Addr},(bkF dk dr dm dp dw).lookup nm = none) (q:P) :
  ∃ a dx fs,V.ref b = V.ref a/\H a = some (.ins C dx fs)/\fs.lookup nm = none/\P:=by
 obtain ⟨dx,dk,dr,dm,dp,dw,h1,_⟩:=h
 exact ⟨b,dx,_,rfl,h1,hm,q⟩
def Keep (p:Addr) (H H':Hp):Prop:=∀ q o,H q = some o->q ≠ p->H' q = some o
theorem Keep.trans {p:Addr} {H H1 H2:Hp} (a:Keep p H H1) (b:Keep p H1 H2):Keep p H H2:=fun q o h n=>b q o (a q o h n) n
theorem Keep.new {p d:Addr} {H:Hp} {o:HO} (h:H d = none):Keep p H (upd H d o):=fun q u e _=>by rw [Bg (Bm e h)]; exact e
theorem Keep.put {p:Addr} {H:Hp} {o:HO}:Keep p H (upd H p o):=fun q u e n=>by rw [Bg n]; exact e
theorem Keep.free {p:Addr} {H H':Hp} {o:HO} (k:Keep p H H') (hp:H' p = some o) {d:Addr} (h:H' d = none):H d = none:=by
 cases e:H d with
 | none=>rfl
 | some u =>
  by_cases z:d = p
  ·subst z; rw [hp] at h; cases h
  ·rw [k _ _ e z] at h; cases h
def AaS (C:Addr):Sp:=fun vs H Q _=>∃ p dx a b cc xs ys zs signs mates J,vs = [.ref p,.ref a,.ref b,.ref cc]/\H p = some (.ins C dx [])/\H a = some (.lst xs)/\H b = some (.lst ys)/\H cc = some (.lst zs)/\LAt TripAt H xs signs/\LAt PairAt H ys mates/\LAt TrjAt H zs J /\
 (∀ s ∈ signs,Xj s)/\(∀ m ∈ mates,0 <= m.1/\0 <= m.2)/\(signs.map (·.1) ++ ends mates).Nodup/\Yr (kK signs ++ kM mates) J/\signs.length + 2 * mates.length <= 400 /\
 ∀ H' kvs dx dk dr dm dp dw,Keep p H H'->H dk = none->H dr = none->H dm = none->H dp = none->H dw = none->H' p = some (.ins C dx (bkF dk dr dm dp dw))->H' dk = some (.dK (kK signs ++ kM mates))->H' dr = some (.dK (kR signs))->H' dm = some (.dK (kB mates))->H' dp = some (.dK kvs)->H' dw = some (.dT (kW J))->LAt KvAt H' kvs J->Q .non H'
def Aau (C:Addr):Sp:=fun vs H Q _=>∃ b n k r m p w,vs = [.ref b,.int n]/\BookAt C H b k r m p w/\Q ((Ci k (Sum.inl n)).getD (.str "plain")) H
theorem Acn {C b:Addr} {n:Int} {k r m p:List (Key × V)} {w:List (List Key × V)} {H:Hp} {Q:VK} {E:XK} (h:BookAt C H b k r m p w) (q:Q ((Ci k (Sum.inl n)).getD (.str "plain")) H):Aau C [.ref b,.int n] H Q E:=⟨b,n,k,r,m,p,w,rfl,h,q⟩
def Vv (C:Addr):Sp:=fun vs H Q _=>∃ b n k r m p w,vs = [.ref b,.int n]/\BookAt C H b k r m p w/\Q ((Ci r (Sum.inl n)).getD (.int 0)) H
def Aab (C:Addr):Sp:=fun vs H Q _=>∃ b n k r m p w,vs = [.ref b,.int n]/\BookAt C H b k r m p w/\Q ((Ci p (Sum.inl n)).getD .non) H
inductive PV where
 | non | bl (b:Bool) | int (i:Int) | str (x:Str)
 | lst (xs:List PV) | tup (xs:List PV) | ctp (xs:List PV)
 | dk (kvs:List (Key × PV)) | dt (kvs:List (List Key × PV))
 | bk (S:List Sg) (M:List (Int × Int)) (J:List Jn)
 | scr (ns:List Int)
 | exc (c:Addr) | cls (c:Addr) | ty (n:String)
inductive Rep (K:PySem.W.Frag) (C:Addr) (G:Hp):V->PV->Prop where
 | non:Rep K C G .non .non
 | bl (b:Bool):Rep K C G (.bl b) (.bl b)
 | int (i:Int):Rep K C G (.int i) (.int i)
 | str (x:Str):Rep K C G (.str x) (.str x)
 | lst {a:Addr} {vs:List V} {ps:List PV} (e:G a = some (.lst vs)) (l:vs.length = ps.length) (h:∀ (i:Nat) (v:V) (p:PV),vs[i]? = some v->ps[i]? = some p->Rep K C G v p):Rep K C G (.ref a) (.lst ps)
 | tup {a:Addr} {vs:List V} {ps:List PV} (e:G a = some (.tup vs)) (l:vs.length = ps.length) (h:∀ (i:Nat) (v:V) (p:PV),vs[i]? = some v->ps[i]? = some p->Rep K C G v p):Rep K C G (.ref a) (.tup ps)
 | ctp {a:Addr} {vs:List V} {ps:List PV} (e:∀ H,SqT K H a vs) (l:vs.length = ps.length) (h:∀ (i:Nat) (v:V) (p:PV),vs[i]? = some v->ps[i]? = some p->Rep K C G v p):Rep K C G (.ref a) (.ctp ps)
 | dk {a:Addr} {kvs:List (Key × V)} {ps:List (Key × PV)} (e:G a = some (.dK kvs)) (l:kvs.length = ps.length) (hk:∀ (i:Nat) (v:Key × V) (p:Key × PV),kvs[i]? = some v->ps[i]? = some p->v.1 = p.1)
   (h:∀ (i:Nat) (v:Key × V) (p:Key × PV),kvs[i]? = some v->ps[i]? = some p->Rep K C G v.2 p.2):Rep K C G (.ref a) (.dk ps)
 | dt {a:Addr} {kvs:List (List Key × V)} {ps:List (List Key × PV)} (e:G a = some (.dT kvs)) (l:kvs.length = ps.length) (hk:∀ (i:Nat) (v:List Key × V) (p:List Key × PV),kvs[i]? = some v->ps[i]? = some p->v.1 = p.1)
   (h:∀ (i:Nat) (v:List Key × V) (p:List Key × PV),kvs[i]? = some v->ps[i]? = some p->Rep K C G v.2 p.2):Rep K C G (.ref a) (.dt ps)
 | bk {b:Addr} {S:List Sg} {M:List (Int × Int)} {J:List Jn} {kvs:List (Key × V)} (h:BookAt C G b (kK S ++ kM M) (kR S) (kB M) kvs (kW J)) (l:LAt KvAt G kvs J):Rep K C G (.ref b) (.bk S M J)
 | scr {a:Addr} {ns:List Int} (h:SqL K G a (ns.map V.int)):Rep K C G (.ref a) (.scr ns)
 | exc {a c:Addr} (e:G a = some (.ext (AlZ a c))):Rep K C G (.ref a) (.exc c)
 | cls {c:Addr}:Rep K C G (.ref c) (.cls c)
 | ty {n:String}:Rep K C G (.ty n) (.ty n)
section
variable {K:PySem.W.Frag} {C:Addr} {ω:Om} {G G' H H':Hp} {v:V} {p:PV} {a:Addr}
theorem Rep.mono (h:Rep K C G v p) (s:Same G G'):Rep K C G' v p:=by
 induction h with
 | non=>exact .non
 | bl b=>exact .bl b
 | int i=>exact .int i
 | str x=>exact .str x
 | lst e l _ ih=>exact .lst (s _ _ e) l ih
 | tup e l _ ih=>exact .tup (s _ _ e) l ih
 | ctp e l _ ih=>exact .ctp e l ih
 | dk e l hk _ ih=>exact .dk (s _ _ e) l hk ih
 | dt e l hk _ ih=>exact .dt (s _ _ e) l hk ih
 | bk h l=>exact .bk (h.mono fun _ _ e _=>s _ _ e) (l.kvS s)
 | scr h=>exact .scr (s.seq h)
 | exc e=>exact .exc (s _ _ e)
 | cls=>exact .cls
 | ty=>exact .ty
def KRep {κ:Type} (K:PySem.W.Frag) (C:Addr) (G:Hp) (v:κ × V) (p:κ × PV):Prop:=v.1 = p.1/\Rep K C G v.2 p.2
theorem KRep.mono {κ:Type} {v:κ × V} {p:κ × PV} (h:KRep K C G v p) (s:Same G G'):KRep K C G' v p:=⟨h.1,h.2.mono s⟩
abbrev Reps (K:PySem.W.Frag) (C:Addr) (G:Hp) (vs:List V) (ps:List PV):Prop:=LAt (Rep K C) G vs ps
theorem Reps.mono {vs:List V} {ps:List PV} (h:Reps K C G vs ps) (s:Same G G'):Reps K C G' vs ps:=LAt.mono h fun _ _ z=>z.mono s
theorem KReps.mono {κ:Type} {vs:List (κ × V)} {ps:List (κ × PV)} (h:LAt (KRep K C) G vs ps) (s:Same G G'):LAt (KRep K C) G' vs ps:=LAt.mono h fun _ _ z=>z.mono s
theorem Rep.ofL {vs:List V} {ps:List PV} (e:G a = some (.lst vs)) (h:Reps K C G vs ps):Rep K C G (.ref a) (.lst ps):=.lst e h.1 h.2
theorem Rep.ofT {vs:List V} {ps:List PV} (e:G a = some (.tup vs)) (h:Reps K C G vs ps):Rep K C G (.ref a) (.tup ps):=.tup e h.1 h.2
theorem Rep.ofD {vs:List (Key × V)} {ps:List (Key × PV)} (e:G a = some (.dK vs)) (h:LAt (KRep K C) G vs ps):Rep K C G (.ref a) (.dk ps):=.dk e h.1 (fun i v p h1 h2=>(h.2 i v p h1 h2).1) (fun i v p h1 h2=>(h.2 i v p h1 h2).2)
theorem Rep.ofDt {vs:List (List Key × V)} {ps:List (List Key × PV)} (e:G a = some (.dT vs)) (h:LAt (KRep K C) G vs ps):Rep K C G (.ref a) (.dt ps):=.dt e h.1 (fun i v p h1 h2=>(h.2 i v p h1 h2).1) (fun i v p h1 h2=>(h.2 i v p h1 h2).2)
def Ti (o:HO):Prop:=∀ xs,o ≠ .tup xs
def OwnA (K:PySem.W.Frag) (C:Addr) (G H:Hp) (a:Addr):PV->Prop
 | .lst ps=>∃ vs,H a = some (.lst vs)/\Reps K C G vs ps
 | .dk ps=>∃ kvs,H a = some (.dK kvs)/\LAt (KRep K C) G kvs ps
 | .dt ps=>∃ kvs,H a = some (.dT kvs)/\LAt (KRep K C) G kvs ps
 | _=>False
theorem OwnA.ofL {vs:List V} {ps:List PV} (e:H a = some (.lst vs)) (r:Reps K C G vs ps):OwnA K C G H a (.lst ps):=⟨vs,e,r⟩
theorem OwnA.ofD {vs:List (Key × V)} {ps:List (Key × PV)} (e:H a = some (.dK vs)) (r:LAt (KRep K C) G vs ps):OwnA K C G H a (.dk ps):=⟨vs,e,r⟩
theorem OwnA.here (h:OwnA K C G H a p):H a ≠ none:=by
 cases p <;> first | exact h.elim | (obtain ⟨_,e,_⟩:=h; rw [e]; exact fun z=>nomatch z)
theorem OwnA.thing (h:OwnA K C G H a p):∃ o,H a = some o/\Ti o:=by
 cases p <;> first | exact h.elim | (obtain ⟨_,e,_⟩:=h; exact ⟨_,e,fun _ z=>nomatch z⟩)
theorem OwnA.mono (h:OwnA K C G H a p) (s:Same G G') (e:H' a = H a):OwnA K C G' H' a p:=by
 cases p <;> first | exact h.elim | (obtain ⟨vs,e1,l⟩:=h; exact ⟨vs,by rw [e]; exact e1,l.mono s⟩) | (obtain ⟨vs,e1,l⟩:=h; exact ⟨vs,by rw [e]; exact e1,KReps.mono l s⟩)
def RepB (K:PySem.W.Frag) (C:Addr) (G H:Hp) (v:V) (p:PV):Prop:=Rep K C G v p\/∃ a,v = .ref a/\OwnA K C G H a p
structure Grow (G H G' H':Hp):Prop where
 g:Same G G'
 h:Same H H'
 i:Same G' H'
 n:∀ a o,H a = some o->Ti o->G a = none->G' a = none
theorem Grow.refl (s:Same G H):Grow G H G H:=⟨Same.refl _,Same.refl _,s,fun _ _ _ _ h=>h⟩
theorem _root_.L2.Same.eq (s:Same H H') {a:Addr} (h:H a ≠ none):H' a = H a:=by
 cases e:H a with
 | none=>exact absurd e h
 | some o=>exact s _ _ e
theorem Grow.trans {G1 H1:Hp} (x:Grow G H G1 H1) (y:Grow G1 H1 G' H'):Grow G H G' H':=⟨x.g.trans y.g,x.h.trans y.h,y.i,fun a o h1 t h2=>y.n a o (x.h _ _ h1) t (x.n a o h1 t h2)⟩
theorem RepB.grow (h:RepB K C G H v p) (w:Grow G H G' H'):RepB K C G' H' v p:=by
 rcases h with h | ⟨a,e,h⟩
 ·exact .inl (h.mono w.g)
 ·exact .inr ⟨a,e,h.mono w.g (w.h.eq h.here)⟩
theorem Grow.put {o:HO} (s:Same G H) (n:H a = none) (s2:Same H H') (e:H' a = some o):Grow G H (upd G a o) H':=by
 have gn:G a = none:=s.free n
 refine ⟨Same.new gn,s2,fun b u h=>?_,fun b u h1 _ h2=>?_⟩
 ·by_cases z:b = a
  ·subst z; rw [Bl] at h; rw [e]; exact h
  ·rw [Bg z] at h; exact s2 _ _ (s _ _ h)
 ·rw [Bg (by intro z; subst z; rw [n] at h1; cases h1)]; exact h2
theorem Grow.own (s:Same G H) (s2:Same H H'):Grow G H G H':=⟨Same.refl _,s2,s.trans s2,fun _ _ _ _ h=>h⟩
end
inductive Sl where
 | un | sh (p:PV) | bo (p:PV) | ow (p:PV)
abbrev Bh:=List Sl
def SlOk (K:PySem.W.Frag) (C:Addr) (G0 H0:Hp) (own:Nat->Option Addr) (G:Hp) (σ:St) (H:Hp) (i:Nat):Sl->Prop
 | .un=>True
 | .sh p=>∃ v,σ[i]? = some (some v)/\Rep K C G v p
 | .bo p=>∃ v,σ[i]? = some (some v)/\RepB K C G0 H0 v p
 | .ow p=>∃ a,σ[i]? = some (some (.ref a))/\own i = some a/\OwnA K C G H a p
structure Om where
 E:XK
 X:Nat->Prop
 ca:Nat->Addr
def Om.no:Om:=⟨fun _ _ _=>False,fun _=>False,fun _=>0⟩
structure Sat (K:PySem.W.Frag) (C:Addr) (ω:Om) (B G0 H0:Hp) (own:Nat->Option Addr) (G:Hp) (σ:St) (H:Hp) (ρ:Bh):Prop where
 kb:Same B G
 gr:Grow G0 H0 G H
 len:σ.length = ρ.length
 inj:∀ i j a,own i = some a->own j = some a->i = j
 fr:∀ i a,own i = some a->H0 a = none/\G a = none/\∃ o,H a = some o/\Ti o
 sl:∀ i s,ρ[i]? = some s->SlOk K C G0 H0 own G σ H i s
 ex:∀ x H',Same H0 H'->ω.X x->ω.E (.ref (ω.ca x)) none H'
abbrev UE:=Bh->(PV->Prop)->Prop
abbrev UT:=Bh->(Bool->Prop)->Prop
abbrev UA:=Bh->(List PV->Prop)->Prop
structure Jc where
 nx:Bh->Prop
 rt:PV->Prop
 bk:Bh->Prop
 ct:Bh->Prop
abbrev US:=Jc->Bh->Prop
section
variable (K:PySem.W.Frag) (C:Addr) (ω:Om)
def EB (t:TE) (u:UE):Prop:=∀ (B G0 H0:Hp) (own:Nat->Option Addr) (G:Hp) (σ:St) (H:Hp) (ρ:Bh) (P:PV->Prop) (Q:VK),Sat K C ω B G0 H0 own G σ H ρ->u ρ P->(∀ v p G' H',Grow G H G' H'->RepB K C G' H' v p->P p->Q v H')->t σ H Q
def EU (t:TE) (u:UE):Prop:=∀ (B G0 H0:Hp) (own:Nat->Option Addr) (G:Hp) (σ:St) (H:Hp) (ρ:Bh) (P:PV->Prop) (Q:VK),Sat K C ω B G0 H0 own G σ H ρ->u ρ P->(∀ v p G' H',Grow G H G' H'->Rep K C G' v p->P p->Q v H')->t σ H Q
def EF (t:TE) (u:UE):Prop:=∀ (B G0 H0:Hp) (own:Nat->Option Addr) (G:Hp) (σ:St) (H:Hp) (ρ:Bh) (P:PV->Prop) (Q:VK),Sat K C ω B G0 H0 own G σ H ρ->u ρ P->(∀ a p G' H',Grow G H G' H'->H a = none->G' a = none->OwnA K C G' H' a p->P p->Q (.ref a) H')->t σ H Q
def TU (t:TT) (u:UT):Prop:=∀ (B G0 H0:Hp) (own:Nat->Option Addr) (G:Hp) (σ:St) (H:Hp) (ρ:Bh) (P:Bool->Prop) (Q:Bool->Hp->Prop),Sat K C ω B G0 H0 own G σ H ρ->u ρ P->(∀ b G' H',Grow G H G' H'->P b->Q b H')->t σ H Q
def ArgsOk (G H:Hp):List Bool->List V->List PV->Prop
 | [],[],[]=>True
 | true :: ms,v :: vs,p :: ps=>Rep K C G v p/\ArgsOk G H ms vs ps
 | false :: ms,v :: vs,p :: ps=>RepB K C G H v p/\ArgsOk G H ms vs ps
 | _,_,_=>False
def AU (ms:List Bool) (t:TA) (u:UA):Prop:=∀ (B G0 H0:Hp) (own:Nat->Option Addr) (G:Hp) (σ:St) (H:Hp) (ρ:Bh) (P:List PV->Prop) (Q:List V->Hp->Prop),Sat K C ω B G0 H0 own G σ H ρ->u ρ P->(∀ vs ps G' H',Grow G H G' H'->ArgsOk K C G' H' ms vs ps->P ps->Q vs H')->t σ H Q
inductive Rm where
 | sh | fr
def ROk (rm:Rm) (H0 G H:Hp) (v:V) (p:PV):Prop:=match rm with
 | .sh=>Rep K C G v p
 | .fr=>∃ a,v = .ref a/\H0 a = none/\G a = none/\OwnA K C G H a p
structure AbQ (rm:Rm) (B G0 H0:Hp) (D:Ends) (d:Jc):Prop where
 nx:∀ own G σ H ρ,Sat K C ω B G0 H0 own G σ H ρ->d.nx ρ->D.nx σ H
 rt:∀ G H v p,Grow G0 H0 G H->ROk K C rm H0 G H v p->d.rt p->D.rt v H
 bk:∀ own G σ H ρ,Sat K C ω B G0 H0 own G σ H ρ->d.bk ρ->D.bk σ H
 ct:∀ own G σ H ρ,Sat K C ω B G0 H0 own G σ H ρ->d.ct ρ->D.ct σ H
def SU (rm:Rm) (t:TS) (u:US):Prop:=∀ (B G0 H0:Hp) (own:Nat->Option Addr) (G:Hp) (σ:St) (H:Hp) (ρ:Bh) (D:Ends) (d:Jc),Sat K C ω B G0 H0 own G σ H ρ->AbQ K C ω rm B G0 H0 D d->u d ρ->t D σ H
def GU (top:Nat) (g:TG) (u:PV->Bh->(Bh->Prop)->Prop):Prop:=∀ (B G0 H0:Hp) (own:Nat->Option Addr) (G:Hp) (σ:St) (H:Hp) (ρ:Bh) (v:V) (p:PV) (P:Bh->Prop) (R:St->Hp->Prop),Sat K C ω B G0 H0 own G σ H ρ->Rep K C G v p->u p ρ P ->
 (∀ own' σ' ρ',Sat K C ω B G0 H0 own' G σ' H ρ'->σ'.drop top = σ.drop top->P ρ'->R σ' H)->g v σ H R
def GsU (top:Nat) (g:TGs) (u:List PV->Bh->(Bh->Prop)->Prop):Prop:=∀ (B G0 H0:Hp) (own:Nat->Option Addr) (G:Hp) (σ:St) (H:Hp) (ρ:Bh) (vs:List V) (ps:List PV) (P:Bh->Prop) (R:St->Hp->Prop),Sat K C ω B G0 H0 own G σ H ρ->Reps K C G vs ps->u ps ρ P ->
 (∀ own' σ' ρ',Sat K C ω B G0 H0 own' G σ' H ρ'->σ'.drop top = σ.drop top->P ρ'->R σ' H)->g vs σ H R
end
section
variable {K:PySem.W.Frag} {C:Addr} {ω:Om} {B G0 H0 G G' H H':Hp} {own:Nat->Option Addr} {σ:St} {ρ:Bh}
theorem SlOk.grow {i:Nat} {s:Sl} (h:SlOk K C G0 H0 own G σ H i s) (w:Grow G H G' H'):SlOk K C G0 H0 own G' σ H' i s:=by
 cases s with
 | un=>trivial
 | sh p=>obtain ⟨v,e,r⟩:=h; exact ⟨v,e,r.mono w.g⟩
 | bo p=>exact h
 | ow p=>obtain ⟨a,e,o,r⟩:=h; exact ⟨a,e,o,r.mono w.g (w.h.eq r.here)⟩
theorem Sat.grow (S:Sat K C ω B G0 H0 own G σ H ρ) (w:Grow G H G' H'):Sat K C ω B G0 H0 own G' σ H' ρ :=
 ⟨S.kb.trans w.g,S.gr.trans w,S.len,S.inj,fun i a e=>let ⟨f0,fg,o,ho,ht⟩:=S.fr i a e; ⟨f0,w.n a o ho ht fg,o,w.h _ _ ho,ht⟩,fun i s e=>(S.sl i s e).grow w,S.ex⟩
theorem Sat.base {B':Hp} (S:Sat K C ω B G0 H0 own G σ H ρ) (h:Same B' G):Sat K C ω B' G0 H0 own G σ H ρ:=⟨h,S.gr,S.len,S.inj,S.fr,S.sl,S.ex⟩
def Ts (own:Nat->Option Addr) (i:Nat):Nat->Option Addr:=fun j=>if j = i then none else own j
def Sm (own:Nat->Option Addr) (i:Nat) (a:Addr):Nat->Option Addr:=fun j=>if j = i then some a else own j
theorem Jh {own:Nat->Option Addr} {i j:Nat} {a:Addr} (h:Ts own i j = some a):j ≠ i/\own j = some a:=by
 unfold Ts at h
 split at h
 ·cases h
 ·rename_i z; exact ⟨z,h⟩
theorem Tq {α:Type} {l:List α} {i j:Nat} {x s:α} (h:(l.set i x)[j]? = some s):(j = i/\s = x/\i < l.length)\/(j ≠ i/\l[j]? = some s):=by
 by_cases z:j = i
 ·subst z
  rw [List.getElem?_set_self'] at h
  cases e:l[j]? with
  | none=>rw [e] at h; cases h
  | some y=>rw [e] at h; cases h; exact .inl ⟨rfl,rfl,(List.getElem?_eq_some_iff.mp e).1⟩
 ·rw [List.getElem?_set_ne (Ne.symm z)] at h; exact .inr ⟨z,h⟩
theorem Vx {α:Type} {l:List α} {i j:Nat} {x:α} (z:j ≠ i):(l.set i x)[j]? = l[j]?:=List.getElem?_set_ne (Ne.symm z)
theorem Wd {α:Type} {l:List α} {i:Nat} {x:α} (h:i < l.length):(l.set i x)[i]? = some x:=by rw [List.getElem?_set_self h]
theorem SlOk.other {own':Nat->Option Addr} {σ':St} {i:Nat} {s:Sl} (h:SlOk K C G0 H0 own G σ H i s) (e1:σ'[i]? = σ[i]?) (e2:own' i = own i):SlOk K C G0 H0 own' G σ' H i s:=by
 cases s with
 | un=>trivial
 | sh p=>obtain ⟨v,e,r⟩:=h; exact ⟨v,e1.trans e,r⟩
 | bo p=>obtain ⟨v,e,r⟩:=h; exact ⟨v,e1.trans e,r⟩
 | ow p=>obtain ⟨a,e,o,r⟩:=h; exact ⟨a,e1.trans e,e2.trans o,r⟩
theorem Sat.setS (S:Sat K C ω B G0 H0 own G σ H ρ) {i:Nat} {v:V} {p:PV} (r:Rep K C G v p):Sat K C ω B G0 H0 (Ts own i) G (σ.set i (some v)) H (ρ.set i (.sh p)):=by
 refine ⟨S.kb,S.gr,by rw [List.length_set,List.length_set,S.len],fun j k a h1 h2=>S.inj j k a (Jh h1).2 (Jh h2).2,fun j a h=>S.fr j a (Jh h).2,fun j s h=>?_,S.ex⟩
 rcases Tq h with ⟨rfl,rfl,hl⟩ | ⟨z,h⟩
 ·exact ⟨v,Wd (by rw [S.len]; exact hl),r⟩
 ·exact (S.sl j s h).other (Vx z) (by unfold Ts; rw [if_neg z])
theorem Sat.setO (S:Sat K C ω B G0 H0 own G σ H ρ) {i:Nat} {a:Addr} {p:PV} (r:OwnA K C G H a p) (f0:H0 a = none) (fg:G a = none) (fo:∀ j,own j ≠ some a):Sat K C ω B G0 H0 (Sm own i a) G (σ.set i (some (.ref a))) H (ρ.set i (.ow p)):=by
 refine ⟨S.kb,S.gr,by rw [List.length_set,List.length_set,S.len],fun j k b h1 h2=>?_,fun j b h=>?_,fun j s h=>?_,S.ex⟩
 ·unfold Sm at h1 h2
  split at h1 <;> split at h2
  ·rename_i z1 z2; rw [z1,z2]
  ·cases h1; exact absurd h2 (fo k)
  ·cases h2; exact absurd h1 (fo j)
  ·exact S.inj j k b h1 h2
 ·unfold Sm at h
  split at h
  ·cases h; exact ⟨f0,fg,r.thing⟩
  ·exact S.fr j b h
 ·rcases Tq h with ⟨rfl,rfl,hl⟩ | ⟨z,h⟩
  ·exact ⟨a,Wd (by rw [S.len]; exact hl),by unfold Sm; rw [if_pos rfl],r⟩
  ·exact (S.sl j s h).other (Vx z) (by unfold Sm; rw [if_neg z])
theorem Sat.chg (S:Sat K C ω B G0 H0 own G σ H ρ) {i:Nat} {a:Addr} {p:PV} (e:own i = some a) (hi:σ[i]? = some (some (.ref a))) (c:Chg a H H') (r:OwnA K C G H' a p):Sat K C ω B G0 H0 own G σ H' (ρ.set i (.ow p)):=by
 obtain ⟨f0,fg,fh⟩:=S.fr i a e
 have ng:∀ b o,G b = some o->b ≠ a:=fun b o h z=>by subst z; rw [fg] at h; cases h
 refine ⟨S.kb,⟨S.gr.g,fun b o h=>c _ _ (S.gr.h _ _ h) (by intro z; subst z; rw [f0] at h; cases h),fun b o h=>c _ _ (S.gr.i _ _ h) (ng b o h),S.gr.n⟩,by rw [List.length_set,S.len],S.inj,fun j b h=>?_,fun j s h=>?_,S.ex⟩
 ·obtain ⟨q0,qg,o,qh,qt⟩:=S.fr j b h
  refine ⟨q0,qg,?_⟩
  by_cases z:b = a
  ·subst z; exact r.thing
  ·exact ⟨o,c _ _ qh z,qt⟩
 ·rcases Tq h with ⟨rfl,rfl,hl⟩ | ⟨z,h⟩
  ·exact ⟨a,hi,e,r⟩
  ·have q:=S.sl j s h
   cases s with
   | un=>trivial
   | sh p=>exact q
   | bo p=>exact q
   | ow p' =>
    obtain ⟨b,e1,o,r1⟩:=q
    have nb:b ≠ a:=fun w=>z (S.inj j i a (by rw [<- w]; exact o) e)
    refine ⟨b,e1,o,r1.mono (Same.refl _) ?_⟩
    cases w:H b with
    | none=>exact absurd w r1.here
    | some o=>exact c _ _ w nb
def Qo:Sl->Sl
 | .ow p=>.sh p
 | s=>s
def Jz (i:Nat) (ρ:Bh):Bh:=match ρ[i]? with
 | some s=>ρ.set i (Qo s)
 | none=>ρ
theorem Sat.share (S:Sat K C ω B G0 H0 own G σ H ρ) (i:Nat):∃ own' G',Sat K C ω B G0 H0 own' G' σ H (Jz i ρ):=by
 cases e:ρ[i]? with
 | none=>exact ⟨own,G,by unfold Jz; rw [e]; exact S⟩
 | some s =>
  have hl:i < ρ.length:=(List.getElem?_eq_some_iff.mp e).1
  have same:Qo s = s->∃ own' G',Sat K C ω B G0 H0 own' G' σ H (Jz i ρ):=fun z=>⟨own,G,by
   unfold Jz; rw [e]
   have:ρ.set i (Qo s) = ρ:=by
    rw [z]
    refine List.ext_getElem? fun j=>?_
    by_cases w:j = i
    ·subst w; rw [Wd hl,e]
    ·rw [Vx w]
   simp only [this]; exact S⟩
  cases s with
  | un=>exact same rfl
  | sh p=>exact same rfl
  | bo p=>exact same rfl
  | ow p =>
   obtain ⟨a,e1,o,r⟩:=S.sl i _ e
   obtain ⟨f0,fg,ob,hob,_⟩:=S.fr i a o
   have sg:Same G (upd G a ob):=Same.new fg
   have rp:Rep K C (upd G a ob) (.ref a) p:=by
    cases p <;> first | exact r.elim | skip
    ·obtain ⟨vs,h1,h2⟩:=r; rw [hob] at h1; cases h1; exact Rep.ofL Bl (h2.mono sg)
    ·obtain ⟨vs,h1,h2⟩:=r; rw [hob] at h1; cases h1; exact Rep.ofD Bl (KReps.mono h2 sg)
    ·obtain ⟨vs,h1,h2⟩:=r; rw [hob] at h1; cases h1; exact Rep.ofDt Bl (KReps.mono h2 sg)
   have gi:Same (upd G a ob) H:=fun b u h=>by
    by_cases z:b = a
    ·subst z; rw [Bl] at h; rw [hob]; exact h
    ·rw [Bg z] at h; exact S.gr.i _ _ h
   have ge:∀ b,b ≠ a->upd G a ob b = G b:=fun b z=>Bg z
   refine ⟨Ts own i,upd G a ob,S.kb.trans sg,⟨S.gr.g.trans sg,S.gr.h,gi,fun b u h1 t h2=>?_⟩,?_,fun j k b h1 h2=>S.inj j k b (Jh h1).2 (Jh h2).2,fun j b h=>?_,fun j s h=>?_,S.ex⟩
   ·rw [ge b (by intro z; subst z; rw [f0] at h1; cases h1)]; exact S.gr.n b u h1 t h2
   ·unfold Jz; rw [e]; simp only [List.length_set]; exact S.len
   ·obtain ⟨nj,h⟩:=Jh h
    obtain ⟨q0,qg,qh⟩:=S.fr j b h
    exact ⟨q0,by rw [ge b (by intro z; subst z; exact nj (S.inj j i b h o))]; exact qg,qh⟩
   ·have h':(ρ.set i (.sh p))[j]? = some s:=by
     unfold Jz at h; rw [e] at h; exact h
    rcases Tq h' with ⟨rfl,rfl,_⟩ | ⟨z,h2⟩
    ·exact ⟨_,e1,rp⟩
    ·have q:=S.sl j s h2
     cases s with
     | un=>trivial
     | sh p'=>obtain ⟨v,w1,w2⟩:=q; exact ⟨v,w1,w2.mono sg⟩
     | bo p'=>exact q
     | ow p' =>
      obtain ⟨b,w1,w2,w3⟩:=q
      exact ⟨b,w1,by unfold Ts; rw [if_neg z]; exact w2,w3.mono sg rfl⟩
end
section
variable {K:PySem.W.Frag} {C:Addr} {ω:Om}
theorem EU.eb {t:TE} {u:UE} (h:EU K C ω t u):EB K C ω t u:=fun B G0 H0 own G σ H ρ P Q S hu k=>h B G0 H0 own G σ H ρ P Q S hu fun v p G' H' w r hp=>k v p G' H' w (.inl r) hp
theorem EF.eb {t:TE} {u:UE} (h:EF K C ω t u):EB K C ω t u:=fun B G0 H0 own G σ H ρ P Q S hu k=>h B G0 H0 own G σ H ρ P Q S hu fun a p G' H' w _ _ r hp=>k _ p G' H' w (.inr ⟨a,rfl,r⟩) hp
theorem Acs {G H G' H':Hp} {a:Addr} {p:PV} (w:Grow G H G' H') (n:H a = none) (g:G' a = none) (r:OwnA K C G' H' a p):∃ G'',Grow G H G'' H'/\Rep K C G'' (.ref a) p:=by
 obtain ⟨ob,hob⟩:∃ ob,H' a = some ob:=by
  cases e:H' a with
  | none=>exact absurd e r.here
  | some x=>exact ⟨x,rfl⟩
 have sg:Same G' (upd G' a ob):=Same.new g
 refine ⟨upd G' a ob,⟨w.g.trans sg,w.h,fun b u h=>?_,fun b u h1 t h2=>?_⟩,?_⟩
 ·by_cases z:b = a
  ·subst z; rw [Bl] at h; rw [hob]; exact h
  ·rw [Bg z] at h; exact w.i _ _ h
 ·rw [Bg (by intro z; subst z; rw [n] at h1; cases h1)]; exact w.n b u h1 t h2
 ·cases p <;> first | exact r.elim | skip
  ·obtain ⟨vs,h1,h2⟩:=r; rw [hob] at h1; cases h1; exact Rep.ofL Bl (h2.mono sg)
  ·obtain ⟨vs,h1,h2⟩:=r; rw [hob] at h1; cases h1; exact Rep.ofD Bl (KReps.mono h2 sg)
  ·obtain ⟨vs,h1,h2⟩:=r; rw [hob] at h1; cases h1; exact Rep.ofDt Bl (KReps.mono h2 sg)
theorem EF.eu {t:TE} {u:UE} (h:EF K C ω t u):EU K C ω t u:=fun B G0 H0 own G σ H ρ P Q S hu k=>h B G0 H0 own G σ H ρ P Q S hu fun a p G' H' w n g r hp =>
 let ⟨G'',w2,r2⟩:=Acs w n g r
 k _ p G'' H' w2 r2 hp
def Sl.val:Sl->Option PV
 | .un=>none
 | .sh p=>some p
 | .bo p=>some p
 | .ow p=>some p
def Aif (i:Nat):UE:=fun ρ P=>∃ s p,ρ[i]? = some s/\s.val = some p/\P p
def Aft (i:Nat):UE:=fun ρ P=>∃ p,ρ[i]? = some (.sh p)/\P p
theorem Bb {i:Nat}:EB K C ω (Ji i) (Aif i):=fun B G0 H0 own G σ H ρ P Q S ⟨s,p,h1,h2,h3⟩ k=>by
 have q:=S.sl i s h1
 have w:=Grow.refl S.gr.i
 cases s with
 | un=>cases h2
 | sh p'=>cases h2; obtain ⟨v,e,r⟩:=q; exact ⟨v,e,k v _ G H w (.inl r) h3⟩
 | bo p'=>cases h2; obtain ⟨v,e,r⟩:=q; exact ⟨v,e,k v _ G H w (r.grow S.gr) h3⟩
 | ow p'=>cases h2; obtain ⟨a,e,_,r⟩:=q; exact ⟨_,e,k _ _ G H w (.inr ⟨a,rfl,r⟩) h3⟩
theorem De {i:Nat}:EU K C ω (Ji i) (Aft i):=fun B G0 H0 own G σ H ρ P Q S ⟨p,h1,h3⟩ k=>by
 obtain ⟨v,e,r⟩:=S.sl i _ h1
 exact ⟨v,e,k v _ G H (Grow.refl S.gr.i) r h3⟩
def uC (p:PV):UE:=fun _ P=>P p
theorem Abw {v:V} {p:PV} (h:∀ G,Rep K C G v p):EU K C ω (tC v) (uC p):=fun B G0 H0 own G σ H ρ P Q S hu k=>k v p G H (Grow.refl S.gr.i) (h G) hu
theorem Bq {i:Int}:EU K C ω (tC (.int i)) (uC (.int i)):=Abw fun _=>.int i
theorem Vk {b:Bool}:EU K C ω (tC (.bl b)) (uC (.bl b)):=Abw fun _=>.bl b
theorem Qn {x:Str}:EU K C ω (tC (.str x)) (uC (.str x)):=Abw fun _=>.str x
theorem Ah9:EU K C ω (tC .non) (uC .non):=Abw fun _=>.non
theorem RepB.int {G H:Hp} {v:V} {i:Int} (h:RepB K C G H v (.int i)):v = .int i:=by
 rcases h with h | ⟨a,_,h⟩
 ·cases h; rfl
 ·exact h.elim
theorem RepB.bl {G H:Hp} {v:V} {b:Bool} (h:RepB K C G H v (.bl b)):v = .bl b:=by
 rcases h with h | ⟨a,_,h⟩
 ·cases h; rfl
 ·exact h.elim
theorem RepB.str {G H:Hp} {v:V} {b:Str} (h:RepB K C G H v (.str b)):v = .str b:=by
 rcases h with h | ⟨a,_,h⟩
 ·cases h; rfl
 ·exact h.elim
theorem RepB.lst {G H:Hp} {v:V} {ps:List PV} (i:Same G H) (h:RepB K C G H v (.lst ps)):∃ a vs,v = .ref a/\H a = some (.lst vs)/\Reps K C G vs ps:=by
 rcases h with h | ⟨a,e,vs,h1,h2⟩
 ·cases h with
  | lst e l q=>exact ⟨_,_,rfl,i _ _ e,l,q⟩
 ·exact ⟨a,vs,e,h1,h2⟩
theorem RepB.tup {G H:Hp} {v:V} {ps:List PV} (i:Same G H) (h:RepB K C G H v (.tup ps)):∃ a vs,v = .ref a/\H a = some (.tup vs)/\Reps K C G vs ps:=by
 rcases h with h | ⟨a,e,h⟩
 ·cases h with
  | tup e l q=>exact ⟨_,_,rfl,i _ _ e,l,q⟩
 ·exact h.elim
theorem RepB.scr {G H:Hp} {v:V} {ns:List Int} (i:Same G H) (h:RepB K C G H v (.scr ns)):∃ a,v = .ref a/\SqL K H a (ns.map V.int):=by
 rcases h with h | ⟨a,e,h⟩
 ·cases h with
  | scr e=>exact ⟨_,rfl,i.seq e⟩
 ·exact h.elim
theorem RepB.dk {G H:Hp} {v:V} {ps:List (Key × PV)} (i:Same G H) (h:RepB K C G H v (.dk ps)):∃ a kvs,v = .ref a/\H a = some (.dK kvs)/\LAt (KRep K C) G kvs ps:=by
 rcases h with h | ⟨a,e,vs,h1,h2⟩
 ·cases h with
  | dk e l hk q=>exact ⟨_,_,rfl,i _ _ e,l,fun i v p h1 h2=>⟨hk i v p h1 h2,q i v p h1 h2⟩⟩
 ·exact ⟨a,vs,e,h1,h2⟩
theorem RepB.dt {G H:Hp} {v:V} {ps:List (List Key × PV)} (i:Same G H) (h:RepB K C G H v (.dt ps)):∃ a kvs,v = .ref a/\H a = some (.dT kvs)/\LAt (KRep K C) G kvs ps:=by
 rcases h with h | ⟨a,e,vs,h1,h2⟩
 ·cases h with
  | dt e l hk q=>exact ⟨_,_,rfl,i _ _ e,l,fun i v p h1 h2=>⟨hk i v p h1 h2,q i v p h1 h2⟩⟩
 ·exact ⟨a,vs,e,h1,h2⟩
theorem two {ta tb:TE} {ua ub:UE} {r:R2} (ha:EB K C ω ta ua) (hb:EB K C ω tb ub) {B G0 H0:Hp} {own:Nat->Option Addr} {G:Hp} {σ:St} {H:Hp} {ρ:Bh} {Q:VK} {P:PV->PV->Prop} (S:Sat K C ω B G0 H0 own G σ H ρ)
  (hu:ua ρ fun p=>ub ρ fun q=>P p q) (k:∀ v w p q G' H',Grow G H G' H'->RepB K C G' H' v p->RepB K C G' H' w q->P p q->r v w H' Q):tOp r ta tb σ H Q :=
 ha B G0 H0 own G σ H ρ _ _ S hu fun v p G1 H1 w1 r1 h1=>hb B G0 H0 own G1 σ H1 ρ _ _ (S.grow w1) h1 fun w q G2 H2 w2 r2 h2=>k v w p q G2 H2 (w1.trans w2) (r1.grow w2) r2 h2
def bI0 (g:Int->Int->PV) (p q:PV) (P:PV->Prop):Prop:=∃ i j,p = .int i/\q = .int j/\P (g i j)
def uI0 (g:Int->Int->PV) (ua ub:UE):UE:=fun ρ P=>ua ρ fun p=>ub ρ fun q=>bI0 g p q P
def bI (c:Int->Int->Prop) (g:Int->Int->PV) (p q:PV) (P:PV->Prop):Prop:=∃ i j,p = .int i/\q = .int j/\c i j/\P (g i j)
def uI (c:Int->Int->Prop) (g:Int->Int->PV) (ua ub:UE):UE:=fun ρ P=>ua ρ fun p=>ub ρ fun q=>bI c g p q P
theorem Gv {g:Int->Int->V} {g':Int->Int->PV} {ta tb:TE} {ua ub:UE} (hg:∀ G i j,Rep K C G (g i j) (g' i j)) (ha:EB K C ω ta ua) (hb:EB K C ω tb ub):EU K C ω (tOp (rI0 g) ta tb) (uI0 g' ua ub) :=
 fun B G0 H0 own G σ H ρ P Q S hu k=>two ha hb S hu fun v w p q G' H' gr r1 r2 ⟨i,j,e1,e2,h⟩=>by
  subst e1 e2
  exact ⟨i,j,r1.int,r2.int,k _ _ G' H' gr (hg G' i j) h⟩
theorem Fx {c:Int->Int->Prop} {g:Int->Int->V} {g':Int->Int->PV} {ta tb:TE} {ua ub:UE} (hg:∀ G i j,Rep K C G (g i j) (g' i j)) (ha:EB K C ω ta ua) (hb:EB K C ω tb ub):EU K C ω (tOp (rI c g) ta tb) (uI c g' ua ub) :=
 fun B G0 H0 own G σ H ρ P Q S hu k=>two ha hb S hu fun v w p q G' H' gr r1 r2 ⟨i,j,e1,e2,hc,h⟩=>by
  subst e1 e2
  exact ⟨i,j,r1.int,r2.int,hc,k _ _ G' H' gr (hg G' i j) h⟩
def bU (g:Int->PV) (p:PV) (P:PV->Prop):Prop:=∃ i,p = .int i/\P (g i)
def Wf (neg:Bool) (p q:PV) (P:PV->Prop):Prop:=(∃ i j,p = .int i/\q = .int j/\P (.bl (if neg then !decide (i = j) else decide (i = j))))\/(∃ i j,p = .str i/\q = .str j/\P (.bl (if neg then !decide (i = j) else decide (i = j))))
def Aey (neg:Bool) (ua ub:UE):UE:=fun ρ P=>ua ρ fun p=>ub ρ fun q=>Wf neg p q P
theorem Jp {ta tb:TE} {ua ub:UE} (ha:EB K C ω ta ua) (hb:EB K C ω tb ub):EU K C ω (tOp rEq ta tb) (Aey false ua ub) :=
 fun B G0 H0 own G σ H ρ P Q S hu k=>two ha hb S hu fun v w p q G' H' gr r1 r2 h=>by
  rcases h with ⟨i,j,e1,e2,h⟩ | ⟨i,j,e1,e2,h⟩
  ·subst e1 e2; rw [r1.int,r2.int]; exact AgD (k _ _ G' H' gr (.bl _) h)
  ·subst e1 e2; rw [r1.str,r2.str]; exact Agv (k _ _ G' H' gr (.bl _) h)
theorem AbX {ta tb:TE} {ua ub:UE} (ha:EB K C ω ta ua) (hb:EB K C ω tb ub):EU K C ω (tOp rNe ta tb) (Aey true ua ub) :=
 fun B G0 H0 own G σ H ρ P Q S hu k=>two ha hb S hu fun v w p q G' H' gr r1 r2 h=>by
  rcases h with ⟨i,j,e1,e2,h⟩ | ⟨i,j,e1,e2,h⟩
  ·subst e1 e2; rw [r1.int,r2.int]; exact Agx (k _ _ G' H' gr (.bl _) h)
  ·subst e1 e2; rw [r1.str,r2.str]; exact Agc (k _ _ G' H' gr (.bl _) h)
def isN:PV->Bool
 | .non=>true
 | _=>false
theorem AiW {G H:Hp} {v:V} {p:PV} (r:RepB K C G H v p):decide (v = .non) = isN p:=by
 rcases r with r | ⟨a,e,r⟩
 ·cases r <;> first | rfl | exact decide_eq_false (fun z=>nomatch z)
 ·subst e
  cases p <;> first | exact r.elim | exact decide_eq_false (fun z=>nomatch z)
def AiK (neg:Bool) (ua:UE):UE:=fun ρ P=>ua ρ fun p=>P (.bl (if neg then !isN p else isN p))
theorem AaE {ta:TE} {ua:UE} (ha:EB K C ω ta ua):EU K C ω (AfE ta) (AiK true ua) :=
 fun B G0 H0 own G σ H ρ P Q S hu k=>ha B G0 H0 own G σ H ρ _ _ S hu fun v p G' H' w r h=>by rw [AiW r]; exact k _ _ G' H' w (.bl _) h
def bB (p:PV) (P:Bool->Prop):Prop:=∃ b,p = .bl b/\P b
def uB (ua:UE):UT:=fun ρ P=>ua ρ fun p=>bB p P
theorem Fl {ta:TE} {ua:UE} (ha:EB K C ω ta ua):TU K C ω (tB ta) (uB ua) :=
 fun B G0 H0 own G σ H ρ P Q S hu k=>ha B G0 H0 own G σ H ρ _ _ S hu fun v p G' H' w r ⟨b,e,h⟩=>by subst e; exact ⟨b,r.bl,k b G' H' w h⟩
theorem Ahv {ta:TE} {ua:UE} (ha:EB K C ω ta ua):TU K C ω (AbZ ta) (uB ua) :=
 fun B G0 H0 own G σ H ρ P Q S hu k=>ha B G0 H0 own G σ H ρ _ _ S hu fun v p G' H' w r ⟨b,e,h⟩=>by subst e; exact ⟨b,r.bl,k b G' H' w h⟩
def AiM (ua ub:UT):UT:=fun ρ P=>ua ρ fun b=>if b = true then ub ρ P else P false
def uOr (ua ub:UT):UT:=fun ρ P=>ua ρ fun b=>if b = true then P true else ub ρ P
def Aj1 (ua:UT):UT:=fun ρ P=>ua ρ fun b=>P (!b)
theorem Vf {ta tb:TT} {ua ub:UT} (ha:TU K C ω ta ua) (hb:TU K C ω tb ub):TU K C ω (AhS ta tb) (AiM ua ub) :=
 fun B G0 H0 own G σ H ρ P Q S hu k=>ha B G0 H0 own G σ H ρ _ _ S hu fun b G' H' w h=>by
  cases b with
  | true=>exact Jr (hb B G0 H0 own G' σ H' ρ P Q (S.grow w) (by simpa using h) fun c G2 H2 w2 h2=>k c G2 H2 (w.trans w2) h2)
  | false=>exact Nd (k _ G' H' w (by simpa using h))
theorem AgC {ta tb:TT} {ua ub:UT} (ha:TU K C ω ta ua) (hb:TU K C ω tb ub):TU K C ω (tOr ta tb) (uOr ua ub) :=
 fun B G0 H0 own G σ H ρ P Q S hu k=>ha B G0 H0 own G σ H ρ _ _ S hu fun b G' H' w h=>by
  cases b with
  | false=>exact Nd (hb B G0 H0 own G' σ H' ρ P Q (S.grow w) (by simpa using h) fun c G2 H2 w2 h2=>k c G2 H2 (w.trans w2) h2)
  | true=>exact Jr (k _ G' H' w (by simpa using h))
theorem AhR {ta:TT} {ua:UT} (ha:TU K C ω ta ua):TU K C ω (AdZ ta) (Aj1 ua) :=
 fun B G0 H0 own G σ H ρ P Q S hu k=>ha B G0 H0 own G σ H ρ _ _ S hu fun b G' H' w h=>k _ G' H' w h
end
section
variable {K:PySem.W.Frag} {C:Addr} {ω:Om}
theorem ArgsOk.len {G H:Hp}:∀ {ms:List Bool} {vs:List V} {ps:List PV},ArgsOk K C G H ms vs ps->vs.length = ms.length/\ps.length = ms.length
 | [],[],[],_=>⟨rfl,rfl⟩
 | true :: _,_ :: _,_ :: _,h=>⟨congrArg Nat.succ h.2.len.1,congrArg Nat.succ h.2.len.2⟩
 | false :: _,_ :: _,_ :: _,h=>⟨congrArg Nat.succ h.2.len.1,congrArg Nat.succ h.2.len.2⟩
 | [],_ :: _,_,h=>h.elim
 | [],[],_ :: _,h=>h.elim
 | true :: _,[],_,h=>by cases h
 | false :: _,[],_,h=>by cases h
 | true :: _,_ :: _,[],h=>by cases h
 | false :: _,_ :: _,[],h=>by cases h
theorem ArgsOk.reps {G H:Hp}:∀ {n:Nat} {vs:List V} {ps:List PV},ArgsOk K C G H (List.replicate n true) vs ps->Reps K C G vs ps
 | 0,[],[],_=>LAt.nil
 | 0,_ :: _,_,h=>by cases h
 | 0,[],_ :: _,h=>by cases h
 | _ + 1,[],_,h=>by cases h
 | _ + 1,_ :: _,[],h=>by cases h
 | n + 1,v :: vs,p :: ps,h=>by
  have h1:Rep K C G v p:=h.1
  have h2:Reps K C G vs ps:=ArgsOk.reps (n:=n) h.2
  exact ⟨congrArg Nat.succ h2.1,fun i x y e1 e2=>by
   cases i with
   | zero=>cases e1; cases e2; exact h1
   | succ i=>exact h2.2 i x y (by simpa using e1) (by simpa using e2)⟩
def Ajf:UA:=fun _ P=>P []
def AbP (ua:UE) (ur:UA):UA:=fun ρ P=>ua ρ fun p=>ur ρ fun ps=>P (p :: ps)
theorem Bp:AU K C ω [] Ot Ajf:=fun B G0 H0 own G σ H ρ P Q S hu k=>k [] [] G H (Grow.refl S.gr.i) trivial hu
theorem Dg {ms:List Bool} {ta:TE} {tr:TA} {ua:UE} {ur:UA} (ha:EU K C ω ta ua) (hr:AU K C ω ms tr ur):AU K C ω (true :: ms) (Gu ta tr) (AbP ua ur) :=
 fun B G0 H0 own G σ H ρ P Q S hu k=>ha B G0 H0 own G σ H ρ _ _ S hu fun v p G1 H1 w1 r1 h1=>hr B G0 H0 own G1 σ H1 ρ _ _ (S.grow w1) h1 fun vs ps G2 H2 w2 r2 h2=>k (v :: vs) (p :: ps) G2 H2 (w1.trans w2) ⟨r1.mono w2.g,r2⟩ h2
theorem Bx {ms:List Bool} {ta:TE} {tr:TA} {ua:UE} {ur:UA} (ha:EB K C ω ta ua) (hr:AU K C ω ms tr ur):AU K C ω (false :: ms) (Gu ta tr) (AbP ua ur) :=
 fun B G0 H0 own G σ H ρ P Q S hu k=>ha B G0 H0 own G σ H ρ _ _ S hu fun v p G1 H1 w1 r1 h1=>hr B G0 H0 own G1 σ H1 ρ _ _ (S.grow w1) h1 fun vs ps G2 H2 w2 r2 h2=>k (v :: vs) (p :: ps) G2 H2 (w1.trans w2) ⟨r1.grow w2,r2⟩ h2
def Ah2 (u:UA):UE:=fun ρ P=>u ρ fun ps=>P (.lst ps)
def Aic (u:UA):UE:=fun ρ P=>u ρ fun ps=>P (.tup ps)
theorem Fm (n:Nat) {t:TA} {u:UA} (h:AU K C ω (List.replicate n true) t u) (hn:n <= 1000:=by decide):EF K C ω (AbS t) (Ah2 u) :=
 fun B G0 H0 own G σ H ρ P Q S hu k=>h B G0 H0 own G σ H ρ _ _ S hu fun vs ps G1 H1 w1 r1 h1=>by
  have hl:vs.length = n:=by rw [r1.len.1,List.length_replicate]
  refine ⟨Nat.le_of_lt (Ly (by omega)),fun a H2 ha s2 e2=>?_⟩
  have w2:=w1.trans (Grow.own w1.i s2)
  exact k a _ G1 H2 w2 (w1.h.free ha) (w1.i.free ha) (OwnA.ofL e2 r1.reps) h1
theorem Qi (n:Nat) {t:TA} {u:UA} (h:AU K C ω (List.replicate n true) t u) (hn:n <= 1000:=by decide):EU K C ω (Aby t) (Aic u) :=
 fun B G0 H0 own G σ H ρ P Q S hu k=>h B G0 H0 own G σ H ρ _ _ S hu fun vs ps G1 H1 w1 r1 h1=>by
  have hl:vs.length = n:=by rw [r1.len.1,List.length_replicate]
  refine ⟨Nat.le_of_lt (Ly (by omega)),fun a H2 ha s2 e2=>?_⟩
  have w2:=Grow.put w1.i ha s2 e2
  exact k _ _ _ H2 (w1.trans w2) (Rep.ofT Bl (r1.reps.mono w2.g)) h1
theorem LAt.get' {β α:Type} {R:Hp->β->α->Prop} {H:Hp} {xs:List β} {ys:List α} (h:LAt R H xs ys) {i:Nat} {y:α} (e:ys[i]? = some y):∃ x,xs[i]? = some x/\R H x y:=by
 have hi:i < ys.length:=(List.getElem?_eq_some_iff.mp e).1
 have hx:i < xs.length:=by rw [h.1]; exact hi
 exact ⟨xs[i],List.getElem?_eq_getElem hx,h.2 i _ y (List.getElem?_eq_getElem hx) e⟩
theorem LAt.atI {β α:Type} {R:Hp->β->α->Prop} {H:Hp} {xs:List β} {ys:List α} (h:LAt R H xs ys) {i:Int} {y:α} (e:L2.atI ys i = some y):∃ x,L2.atI xs i = some x/\R H x y:=by
 unfold L2.atI at e ⊢
 rw [h.1]
 cases z:ixN ys.length i with
 | none=>rw [z] at e; cases e
 | some j=>rw [z] at e; exact h.get' e
theorem Ff {G:Hp} (ns:List Int):Reps K C G (ns.map V.int) (ns.map PV.int) :=
 ⟨by simp,fun i v p h1 h2=>by
  rw [List.getElem?_map] at h1 h2
  cases e:ns[i]? with
  | none=>rw [e] at h1; cases h1
  | some n=>rw [e] at h1 h2; cases h1; cases h2; exact .int n⟩
def Zn (p q:PV) (P:PV->Prop):Prop:=∃ i ps x,q = .int i/\(p = .lst ps\/∃ ns,p = .scr ns/\ps = ns.map .int)/\atI ps i = some x/\P x
def Ajb (ua ub:UE):UE:=fun ρ P=>ua ρ fun p=>ub ρ fun q=>Zn p q P
theorem Fs {ta tb:TE} {ua ub:UE} (ha:EB K C ω ta ua) (hb:EB K C ω tb ub):EU K C ω (tOp (AbY K) ta tb) (Ajb ua ub) :=
 fun B G0 H0 own G σ H ρ P Q S hu k=>two ha hb S hu fun v w p q G' H' gr r1 r2 ⟨i,ps,x,e1,e2,e3,h⟩=>by
  subst e1
  rcases e2 with e2 | ⟨ns,e2,e4⟩
  ·subst e2
   obtain ⟨a,vs,rfl,ea,l⟩:=r1.lst gr.i
   obtain ⟨y,hy,ry⟩:=l.atI e3
   exact ⟨a,vs,i,y,rfl,r2.int,SqL.of ea,hy,k y x G' H' gr ry h⟩
  ·subst e2 e4
   obtain ⟨a,rfl,ea⟩:=r1.scr gr.i
   obtain ⟨y,hy,ry⟩:=(Ff (K:=K) (C:=C) (G:=G') ns).atI e3
   exact ⟨a,_,i,y,rfl,r2.int,ea,hy,k y x G' H' gr ry h⟩
def On (p q:PV) (P:PV->Prop):Prop:=∃ i ps x,q = .int i/\p = .tup ps/\atI ps i = some x/\P x
def AjY (ua ub:UE):UE:=fun ρ P=>ua ρ fun p=>ub ρ fun q=>On p q P
theorem Cz {ta tb:TE} {ua ub:UE} (ha:EB K C ω ta ua) (hb:EB K C ω tb ub):EU K C ω (tOp (AbW K) ta tb) (AjY ua ub) :=
 fun B G0 H0 own G σ H ρ P Q S hu k=>two ha hb S hu fun v w p q G' H' gr r1 r2 ⟨i,ps,x,e1,e2,e3,h⟩=>by
  subst e1 e2
  obtain ⟨a,vs,rfl,ea,l⟩:=r1.tup gr.i
  obtain ⟨y,hy,ry⟩:=l.atI e3
  exact ⟨a,vs,i,y,rfl,r2.int,SqT.of ea,hy,k y x G' H' gr ry h⟩
abbrev UO:=Bh->(Option Int->Prop)->Prop
def OU (K:PySem.W.Frag) (C:Addr) (ω:Om) (t:TO) (u:UO):Prop:=∀ (B G0 H0:Hp) (own:Nat->Option Addr) (G:Hp) (σ:St) (H:Hp) (ρ:Bh) (P:Option Int->Prop) (Q:Option Int->Hp->Prop),Sat K C ω B G0 H0 own G σ H ρ->u ρ P->(∀ o G' H',Grow G H G' H'->P o->Q o H')->t σ H Q
def AaR:UO:=fun _ P=>P none
def Abz (p:PV) (P:Option Int->Prop):Prop:=∃ i,p = .int i/\P (some i)
def Agp (ua:UE):UO:=fun ρ P=>ua ρ fun p=>Abz p P
theorem Gb:OU K C ω Wh AaR:=fun B G0 H0 own G σ H ρ P Q S hu k=>k none G H (Grow.refl S.gr.i) hu
theorem Dv {ta:TE} {ua:UE} (ha:EB K C ω ta ua):OU K C ω (AbE ta) (Agp ua) :=
 fun B G0 H0 own G σ H ρ P Q S hu k=>ha B G0 H0 own G σ H ρ _ _ S hu fun v p G' H' w r ⟨i,e,h⟩=>by subst e; exact ⟨i,r.int,k _ G' H' w h⟩
def Ft {α:Type} (xs:List α) (lo hi:Option Int):List α:=(xs.drop (HT.sIx xs.length 0 lo)).take (HT.sIx xs.length xs.length hi - HT.sIx xs.length 0 lo)
theorem Fh {α β:Type} (f:α->β) (xs:List α) (lo hi:Option Int):Ft (xs.map f) lo hi = (Ft xs lo hi).map f:=by
 unfold Ft; rw [List.length_map,List.map_take,List.map_drop]
theorem Reps.cut {G:Hp} {vs:List V} {ps:List PV} (h:Reps K C G vs ps) (lo hi:Option Int):Reps K C G (Jq vs lo hi) (Ft ps lo hi):=by
 unfold Jq Ft
 rw [h.1]
 exact (LAt.drop h _).take _
def AeQ (p:PV) (lo hi:Option Int) (P:PV->Prop):Prop:=∃ ps,(p = .lst ps\/∃ ns,p = .scr ns/\ps = ns.map .int)/\P (.lst (Ft ps lo hi))
def Ajj (ua:UE) (ul uh:UO):UE:=fun ρ P=>ua ρ fun p=>ul ρ fun lo=>uh ρ fun hi=>AeQ p lo hi P
theorem Gm {ta:TE} {tl th:TO} {ua:UE} {ul uh:UO} (ha:EB K C ω ta ua) (hl:OU K C ω tl ul) (hh:OU K C ω th uh):EF K C ω (tSl (Abg K) ta tl th) (Ajj ua ul uh) :=
 fun B G0 H0 own G σ H ρ P Q S hu k=>ha B G0 H0 own G σ H ρ _ _ S hu fun v p G1 H1 w1 r1 h1=>hl B G0 H0 own G1 σ H1 ρ _ _ (S.grow w1) h1 fun lo G2 H2 w2 h2=>hh B G0 H0 own G2 σ H2 ρ _ _ ((S.grow w1).grow w2) h2 fun hi G3 H3 w3 h3=>by
  have w:=(w1.trans w2).trans w3
  have r:=(r1.grow w2).grow w3
  obtain ⟨ps,e,h⟩:=h3
  rcases e with e | ⟨ns,e,e4⟩
  ·subst e
   obtain ⟨a,vs,rfl,ea,l⟩:=r.lst w3.i
   exact ⟨a,vs,rfl,SqL.of ea,fun b H4 hb s4 e4=>k b _ G3 H4 (w.trans (Grow.own w3.i s4)) (w.h.free hb) (w3.i.free hb) (OwnA.ofL e4 (l.cut lo hi)) h⟩
  ·subst e e4
   obtain ⟨a,rfl,ea⟩:=r.scr w3.i
   exact ⟨a,_,rfl,ea,fun b H4 hb s4 e4=>k b _ G3 H4 (w.trans (Grow.own w3.i s4)) (w.h.free hb) (w3.i.free hb) (OwnA.ofL e4 ((Ff ns).cut lo hi)) h⟩
theorem AeM {G:Hp} {vs ws:List V} {ps qs:List PV} (h:Reps K C G vs ps) (h':Reps K C G ws qs):Reps K C G (vs ++ ws) (ps ++ qs):=LAt.append h h'
def Aem (p q:PV) (P:PV->Prop):Prop:=∃ ps qs,p = .lst ps/\q = .lst qs/\ps.length + qs.length <= 100000/\P (.lst (ps ++ qs))
def AjA (ua ub:UE):UE:=fun ρ P=>ua ρ fun p=>ub ρ fun q=>Aem p q P
theorem Abf {n:Nat} (h:n <= 100000):n < sizeLine:=Nat.lt_of_le_of_lt h (by decide)
theorem Dx {ta tb:TE} {ua ub:UE} (ha:EB K C ω ta ua) (hb:EB K C ω tb ub):EF K C ω (tOp Abe ta tb) (AjA ua ub) :=
 fun B G0 H0 own G σ H ρ P Q S hu k=>two ha hb S hu fun v w p q G' H' gr r1 r2 ⟨ps,qs,e1,e2,hl,h⟩=>by
  subst e1 e2
  obtain ⟨a,vs,rfl,ea,l⟩:=r1.lst gr.i
  obtain ⟨b,ws,rfl,eb,l2⟩:=r2.lst gr.i
  exact ⟨a,b,vs,ws,rfl,rfl,ea,eb,Nat.le_of_lt (Abf (by rw [l.1,l2.1]; exact hl)),fun c H4 hc s4 e4=>k c _ G' H4 (gr.trans (Grow.own gr.i s4)) (gr.h.free hc) (gr.i.free hc) (OwnA.ofL e4 (AeM l l2)) h⟩
def uCB (ur:List PV->(PV->Prop)->Prop) (u:UA):UE:=fun ρ P=>u ρ fun ps=>ur ps P
theorem AkK {ms:List Bool} {r:List V->Hp->VK->Prop} {ur:List PV->(PV->Prop)->Prop} {t:TA} {u:UA}
  (hr:∀ G H vs ps P Q,Same G H->ArgsOk K C G H ms vs ps->ur ps P->(∀ v p,Rep K C G v p->P p->Q v H)->r vs H Q) (ha:AU K C ω ms t u):EU K C ω (tCB r t) (uCB ur u) :=
 fun B G0 H0 own G σ H ρ P Q S hu k=>ha B G0 H0 own G σ H ρ _ _ S hu fun vs ps G1 H1 w1 r1 h1=>hr G1 H1 vs ps P Q w1.i r1 h1 fun v p rv hp=>k v p G1 H1 w1 rv hp
theorem Oc {G H:Hp} {m:Bool} {vs:List V} {ps:List PV} (h:ArgsOk K C G H [m] vs ps):∃ v p,vs = [v]/\ps = [p]/\RepB K C G H v p:=by
 match vs,ps,m,h with
 | [v],[p],true,h=>exact ⟨v,p,rfl,rfl,.inl h.1⟩
 | [v],[p],false,h=>exact ⟨v,p,rfl,rfl,h.1⟩
 | [],_,true,h=>cases h
 | [],_,false,h=>cases h
 | _ :: _,[],true,h=>cases h
 | _ :: _,[],false,h=>cases h
 | _ :: _ :: _,[_],true,h=>cases h.2
 | _ :: _ :: _,[_],false,h=>cases h.2
 | [_],_ :: _ :: _,true,h=>cases h.2
 | [_],_ :: _ :: _,false,h=>cases h.2
 | _ :: _ :: _,_ :: _ :: _,true,h=>cases h.2
 | _ :: _ :: _,_ :: _ :: _,false,h=>cases h.2
theorem Ub {G H:Hp} {m n:Bool} {vs:List V} {ps:List PV} (h:ArgsOk K C G H [m,n] vs ps):∃ v w p q,vs = [v,w]/\ps = [p,q]/\RepB K C G H v p/\RepB K C G H w q:=by
 match vs,ps,m,h with
 | v :: vs,p :: ps,true,h=>obtain ⟨w,q,rfl,rfl,r⟩:=Oc h.2; exact ⟨v,w,p,q,rfl,rfl,.inl h.1,r⟩
 | v :: vs,p :: ps,false,h=>obtain ⟨w,q,rfl,rfl,r⟩:=Oc h.2; exact ⟨v,w,p,q,rfl,rfl,h.1,r⟩
 | [],_,true,h=>cases h
 | [],_,false,h=>cases h
 | _ :: _,[],true,h=>cases h
 | _ :: _,[],false,h=>cases h
def AfS (ps:List PV) (P:PV->Prop):Prop:=∃ n:Nat,(ps = [.scr []]/\n = 0\/(∃ xs,ps = [.lst xs]/\n = xs.length)\/(∃ xs,ps = [.tup xs]/\n = xs.length)\/∃ ns,ps = [.scr ns]/\n = ns.length)/\P (.int n)
theorem Fz {m:Bool} {t:TA} {u:UA} (ha:AU K C ω [m] t u):EU K C ω (tCB (fun xs H Q=>∃ p ys,xs = [.ref p]/\(SqL K H p ys\/SqT K H p ys)/\Q (.int ys.length) H) t) (uCB AfS u) :=
 AkK (fun G H vs ps P Q i ok h k=>by
  obtain ⟨v,p,rfl,rfl,r⟩:=Oc ok
  obtain ⟨n,h1,h2⟩:=h
  rcases h1 with ⟨e,rfl⟩ | ⟨xs,e,rfl⟩ | ⟨xs,e,rfl⟩ | ⟨ns,e,rfl⟩
  ·cases e
   obtain ⟨a,rfl,ea⟩:=r.scr i
   exact ⟨a,_,rfl,.inl ea,k _ _ (.int _) h2⟩
  ·cases e
   obtain ⟨a,vs,rfl,ea,l⟩:=r.lst i
   exact ⟨a,vs,rfl,.inl (SqL.of ea),by rw [l.1]; exact k _ _ (.int _) h2⟩
  ·cases e
   obtain ⟨a,vs,rfl,ea,l⟩:=r.tup i
   exact ⟨a,vs,rfl,.inr (SqT.of ea),by rw [l.1]; exact k _ _ (.int _) h2⟩
  ·cases e
   obtain ⟨a,rfl,ea⟩:=r.scr i
   exact ⟨a,_,rfl,.inl ea,by rw [List.length_map]; exact k _ _ (.int _) h2⟩) ha
def AcD (ps:List PV) (P:PV->Prop):Prop:=∃ xs,(ps = [.lst xs]\/ps = [.tup xs]\/∃ ns,ps = [.scr ns]/\xs = ns.map .int)/\P (.lst xs)
theorem Li {m:Bool} {t:TA} {u:UA} (ha:AU K C ω [m] t u):EF K C ω (tCB (fun xs H Q=>∃ p ys,xs = [.ref p]/\(SqL K H p ys\/SqT K H p ys)/\∀ l H',H l = none->Same H H'->H' l = some (.lst ys)->Q (.ref l) H') t) (uCB AcD u) :=
 fun B G0 H0 own G σ H ρ P Q S hu k=>ha B G0 H0 own G σ H ρ _ _ S hu fun vs ps G1 H1 w1 r1 h1=>by
  obtain ⟨v,p,rfl,rfl,r⟩:=Oc r1
  obtain ⟨xs,h1,h2⟩:=h1
  rcases h1 with e | e | ⟨ns,e,rfl⟩
  ·cases e
   obtain ⟨a,vs,rfl,ea,l⟩:=r.lst w1.i
   exact ⟨a,vs,rfl,.inl (SqL.of ea),fun b H4 hb s4 e4=>k b _ G1 H4 (w1.trans (Grow.own w1.i s4)) (w1.h.free hb) (w1.i.free hb) (OwnA.ofL e4 l) h2⟩
  ·cases e
   obtain ⟨a,vs,rfl,ea,l⟩:=r.tup w1.i
   exact ⟨a,vs,rfl,.inr (SqT.of ea),fun b H4 hb s4 e4=>k b _ G1 H4 (w1.trans (Grow.own w1.i s4)) (w1.h.free hb) (w1.i.free hb) (OwnA.ofL e4 l) h2⟩
  ·cases e
   obtain ⟨a,rfl,ea⟩:=r.scr w1.i
   exact ⟨a,_,rfl,.inl ea,fun b H4 hb s4 e4=>k b _ G1 H4 (w1.trans (Grow.own w1.i s4)) (w1.h.free hb) (w1.i.free hb) (OwnA.ofL e4 (Ff ns)) h2⟩
end
section
variable {K:PySem.W.Frag} {C:Addr} {ω:Om} {rm:Rm}
def Af8:US:=fun d ρ=>d.nx ρ
def AeD (u w:US):US:=fun d ρ=>u { d with nx:=w d } ρ
theorem Gf:SU K C ω rm Abl Af8:=fun B G0 H0 own G σ H ρ D d S F h=>F.nx own G σ H ρ S h
theorem Bv {t t':TS} {u u':US} (h:SU K C ω rm t u) (h':SU K C ω rm t' u'):SU K C ω rm (AeC t t') (AeD u u'):=fun B G0 H0 own G σ H ρ D d S F hu =>
 h B G0 H0 own G σ H ρ { D with nx:=t' D } { d with nx:=u' d } S ⟨fun own' G' σ' H' ρ' S' q=>h' B G0 H0 own' G' σ' H' ρ' D d S' F q,F.rt,F.bk,F.ct⟩ hu
def Ye (i:Nat) (u:US):US:=fun d ρ=>u d (Jz i ρ)
theorem AeL (i:Nat) {t:TS} {u:US} (h:SU K C ω rm t u):SU K C ω rm t (Ye i u):=fun B G0 H0 own G σ H ρ D d S F hu =>
 let ⟨own',G',S'⟩:=S.share i
 h B G0 H0 own' G' σ H _ D d S' F hu
def Aeh (ua:UE):US:=fun d ρ=>ua ρ d.rt
theorem Jj {ta:TE} {ua:UE} (ha:EU K C ω ta ua):SU K C ω .sh (Ze ta) (Aeh ua):=fun B G0 H0 own G σ H ρ D d S F hu =>
 ha B G0 H0 own G σ H ρ _ _ S hu fun v p G' H' w r h=>F.rt G' H' v p (S.gr.trans w) r h
theorem Gq {ta:TE} {ua:UE} (ha:EF K C ω ta ua):SU K C ω .fr (Ze ta) (Aeh ua):=fun B G0 H0 own G σ H ρ D d S F hu =>
 ha B G0 H0 own G σ H ρ _ _ S hu fun a p G' H' w n g r h=>F.rt G' H' _ p (S.gr.trans w) ⟨a,rfl,S.gr.h.free n,g,r⟩ h
def Af3 (i:Nat):US:=fun d ρ=>∃ p,ρ[i]? = some (.ow p)/\d.rt p
theorem Oh {i:Nat}:SU K C ω .fr (Ze (Ji i)) (Af3 i):=fun B G0 H0 own G σ H ρ D d S F ⟨p,e,h⟩=>by
 obtain ⟨a,e1,o,r⟩:=S.sl i _ e
 obtain ⟨f0,fg,_⟩:=S.fr i a o
 exact ⟨_,e1,F.rt G H _ p S.gr ⟨a,rfl,f0,fg,r⟩ h⟩
def Aie (uc:UT) (u w:US):US:=fun d ρ=>uc ρ fun b=>if b = true then u d ρ else w d ρ
theorem Je {tc:TT} {t t':TS} {uc:UT} {u u':US} (hc:TU K C ω tc uc) (h:SU K C ω rm t u) (h':SU K C ω rm t' u'):SU K C ω rm (AeP tc t t') (Aie uc u u'):=fun B G0 H0 own G σ H ρ D d S F hu =>
 hc B G0 H0 own G σ H ρ _ _ S hu fun b G' H' w q=>by
  cases b with
  | true=>exact Jr (h B G0 H0 own G' σ H' ρ D d (S.grow w) F (by simpa using q))
  | false=>exact Nd (h' B G0 H0 own G' σ H' ρ D d (S.grow w) F (by simpa using q))
def Aib (i:Nat) (ua:UE):US:=fun d ρ=>ua ρ fun p=>d.nx (ρ.set i (.sh p))
theorem Cs {i:Nat} {ta:TE} {ua:UE} (ha:EU K C ω ta ua):SU K C ω rm (Sh ta (Lx i)) (Aib i ua):=fun B G0 H0 own G σ H ρ D d S F hu =>
 ha B G0 H0 own G σ H ρ _ _ S hu fun v p G' H' w r h=>F.nx _ G' _ H' _ ((S.grow w).setS r) h
def AgE (i:Nat) (ua:UE):US:=fun d ρ=>ua ρ fun p=>d.nx (ρ.set i (.ow p))
theorem Jd {i:Nat} {ta:TE} {ua:UE} (ha:EF K C ω ta ua):SU K C ω rm (Sh ta (Lx i)) (AgE i ua):=fun B G0 H0 own G σ H ρ D d S F hu =>
 ha B G0 H0 own G σ H ρ _ _ S hu fun a p G' H' w n g r h=>F.nx _ G' _ H' _ ((S.grow w).setO r (S.gr.h.free n) g fun j z=>(let ⟨_,_,o,ho,_⟩:=S.fr j a z; by rw [n] at ho; cases ho)) h
def AdW (i:Nat):PV->Bh->(Bh->Prop)->Prop:=fun p ρ P=>P (ρ.set i (.sh p))
theorem Zh {α:Type}:∀ {l:List α} {i top:Nat} {x:α},i < top->(l.set i x).drop top = l.drop top
 | [],_,_,_,_=>rfl
 | _ :: _,_,0,_,h=>by omega
 | _ :: _,0,_ + 1,_,_=>rfl
 | _ :: l,i + 1,t + 1,x,h=>Zh (l:=l) (i:=i) (top:=t) (by omega)
theorem Ch {top i:Nat} (hi:i < top:=by decide):GU K C ω top (Lx i) (AdW i):=fun B G0 H0 own G σ H ρ v p P R S r h k=>k _ _ _ (S.setS r) (Zh hi) h
def AdT:List PV->Bh->(Bh->Prop)->Prop:=fun ps ρ P=>ps = []/\P ρ
def Aa0 (u:PV->Bh->(Bh->Prop)->Prop) (us:List PV->Bh->(Bh->Prop)->Prop):List PV->Bh->(Bh->Prop)->Prop:=fun ps ρ P=>∃ p r,ps = p :: r/\u p ρ fun ρ'=>us r ρ' P
theorem Qq {top:Nat}:GsU K C ω top AeW AdT:=fun B G0 H0 own G σ H ρ vs ps P R S r ⟨e,h⟩ k=>by
 subst e
 exact ⟨List.eq_nil_of_length_eq_zero r.1,k _ _ _ S rfl h⟩
theorem Fp {top:Nat} {g:TG} {gs:TGs} {u:PV->Bh->(Bh->Prop)->Prop} {us:List PV->Bh->(Bh->Prop)->Prop} (hg:GU K C ω top g u) (hs:GsU K C ω top gs us):GsU K C ω top (Abh g gs) (Aa0 u us):=fun B G0 H0 own G σ H ρ vs ps P R S r ⟨p,q,e,h⟩ k=>by
 subst e
 match vs,r with
 | [],r=>have:=r.1; simp at this
 | v :: vs,r =>
  obtain ⟨r1,r2⟩:=r.uncons
  exact ⟨v,vs,rfl,hg B G0 H0 own G σ H ρ v p _ _ S r1 h fun own' σ' ρ' S' dr h'=>hs B G0 H0 own' G σ' H ρ' vs q P R S' r2 h' fun own2 σ2 ρ2 S2 dr2 h2=>k own2 σ2 ρ2 S2 (dr2.trans dr) h2⟩
def Xm (n:Nat) (us:List PV->Bh->(Bh->Prop)->Prop):PV->Bh->(Bh->Prop)->Prop:=fun p ρ P=>∃ ps,p = .tup ps/\ps.length = n/\us ps ρ P
theorem Sq {top n:Nat} {gs:TGs} {us:List PV->Bh->(Bh->Prop)->Prop} (hs:GsU K C ω top gs us):GU K C ω top (Zy K n gs) (Xm n us):=fun B G0 H0 own G σ H ρ v p P R S r ⟨ps,e,hl,h⟩ k=>by
 subst e
 cases r with
 | tup e l q=>exact ⟨_,_,rfl,SqT.of (S.gr.i _ _ e),by rw [l]; exact hl,hs B G0 H0 own G σ H ρ _ ps P R S ⟨l,q⟩ h k⟩
def AiL (ua:UE) (ug:PV->Bh->(Bh->Prop)->Prop):US:=fun d ρ=>ua ρ fun p=>ug p ρ d.nx
theorem Aka {top:Nat} {ta:TE} {ua:UE} {g:TG} {ug:PV->Bh->(Bh->Prop)->Prop} (ha:EU K C ω ta ua) (hg:GU K C ω top g ug):SU K C ω rm (Sh ta g) (AiL ua ug):=fun B G0 H0 own G σ H ρ D d S F hu =>
 ha B G0 H0 own G σ H ρ _ _ S hu fun v p G' H' w r h=>hg B G0 H0 own G' σ H' ρ v p _ _ (S.grow w) r h fun own' σ' ρ' S' _ q=>F.nx own' G' σ' H' ρ' S' q
theorem Wn {G:Hp} {vs:List V} {ps:List PV} {v:V} {p:PV} (h:Reps K C G vs ps) (r:Rep K C G v p):Reps K C G (vs ++ [v]) (ps ++ [p]):=LAt.snoc h r
theorem Sat.list {B G0 H0 G H:Hp} {own:Nat->Option Addr} {σ:St} {ρ:Bh} {i:Nat} {ps:List PV} (S:Sat K C ω B G0 H0 own G σ H ρ) (e:ρ[i]? = some (.ow (.lst ps))):∃ a vs,σ[i]? = some (some (.ref a))/\own i = some a/\H a = some (.lst vs)/\Reps K C G vs ps:=by
 obtain ⟨a,e1,o,vs,h1,h2⟩:=S.sl i _ e
 exact ⟨a,vs,e1,o,h1,h2⟩
theorem Vy {B G0 H0 G H:Hp} {own:Nat->Option Addr} {σ:St} {ρ:Bh} {i:Nat} {r:V->List V->Hp->VK->Prop} {t:TA} {Q:VK} {ps:List PV} (S:Sat K C ω B G0 H0 own G σ H ρ) (e:ρ[i]? = some (.ow (.lst ps)))
  (k:∀ a vs,σ[i]? = some (some (.ref a))->own i = some a->H a = some (.lst vs)->Reps K C G vs ps->t σ H fun xs H2=>r (.ref a) xs H2 Q):tBM K "list" r (Ji i) t σ H Q:=by
 obtain ⟨a,vs,e1,o,h1,h2⟩:=S.list e
 exact ⟨_,e1,.inl ⟨rfl,_,SqL.of h1⟩,k a vs e1 o h1 h2⟩
def Aew (i:Nat) (ρ:Bh) (N:Bh->Prop) (qs:List PV):Prop:=∃ q ps,qs = [q]/\ρ[i]? = some (.ow (.lst ps))/\ps.length < 100000/\N (ρ.set i (.ow (.lst (ps ++ [q]))))
def AfM (i:Nat) (u:UA):US:=fun d ρ=>(∃ ps,ρ[i]? = some (.ow (.lst ps)))/\u ρ fun qs=>Aew i ρ d.nx qs
theorem Xp {i:Nat} {t:TA} {u:UA} (ha:AU K C ω [true] t u):SU K C ω rm (Vd (tBM K "list" Uu (Ji i) t)) (AfM i u):=fun B G0 H0 own G σ H ρ D d S F ⟨⟨ps0,e0⟩,hu⟩ =>
 Vy S e0 fun a vs0 e1 o _ _=>ha B G0 H0 own G σ H ρ _ _ S hu fun xs qs G' H' w ok ⟨q,ps,eq,ep,hl,h⟩=>by
  have S':=S.grow w
  obtain ⟨a',vs,e1',o',h1,h2⟩:=S'.list ep
  rw [o] at o'; cases o'
  subst eq
  match xs,ok with
  | [x],ok =>
   have rx:Rep K C G' x q:=ok.1
   exact ⟨a,vs,x,rfl,rfl,h1,Abf (by rw [h2.1]; omega),fun H2 c e2=>F.nx own G' σ H2 _ (S'.chg o e1 c (OwnA.ofL e2 (Wn h2 rx))) h⟩
  | [],ok=>cases ok
  | _ :: _ :: _,ok=>cases ok.2
theorem Aay:EF K C ω Zz (fun _ P=>P (.dk [])):=fun B G0 H0 own G σ H ρ P Q S hu k p hp =>
 k p _ G _ (Grow.own S.gr.i (Same.new hp)) hp (S.gr.i.free hp) (by first | exact OwnA.ofD Bl LAt.nil | exact OwnA.ofDt Bl LAt.nil) hu
def kP:Key->PV
 | .inl i=>.int i
 | .inr x=>.str x
def Gg {κ:Type} [DecidableEq κ] (kvs:List (κ × PV)) (k:κ):Option PV:=(kvs.find? fun kv=>decide (kv.1 = k)).map (·.2)
def Ta {κ:Type} [DecidableEq κ] (kvs:List (κ × PV)) (k:κ) (v:PV):List (κ × PV) :=
 if kvs.any (fun kv=>decide (kv.1 = k)) then kvs.map (fun kv=>if kv.1 = k then (kv.1,v) else kv) else kvs ++ [(k,v)]
theorem Ab4 {κ:Type} [DecidableEq κ] {G:Hp}:∀ {kvs:List (κ × V)} {ps:List (κ × PV)} (k:κ),LAt (KRep K C) G kvs ps->(Ci kvs k = none/\Gg ps k = none)\/∃ v p,Ci kvs k = some v/\Gg ps k = some p/\Rep K C G v p
 | [],[],_,_=>.inl ⟨rfl,rfl⟩
 | [],_ :: _,_,h=>by have:=h.1; simp at this
 | _ :: _,[],_,h=>by have:=h.1; simp at this
 | x :: xs,y :: ys,k,h=>by
  obtain ⟨⟨e,r⟩,h2⟩:=h.uncons
  unfold Ci Gg
  rw [List.find?_cons,List.find?_cons,<- e]
  by_cases z:x.1 = k
  ·rw [decide_eq_true z]; exact .inr ⟨_,_,rfl,rfl,r⟩
  ·rw [decide_eq_false z]; exact Ab4 k h2
theorem AfZ {G H:Hp} {v:V} {k:Key} (h:RepB K C G H v (kP k)):v = kV k:=by
 cases k with
 | inl i=>exact h.int
 | inr x=>exact h.str
end
section
variable {K:PySem.W.Frag} {C:Addr} {ω:Om} {rm:Rm}
theorem Ah8 {κ:Type} [DecidableEq κ] {G:Hp} {kvs:List (κ × V)} {ps:List (κ × PV)} {k:κ} {v:V} {p:PV} (h:LAt (KRep K C) G kvs ps) (r:Rep K C G v p):LAt (KRep K C) G (Gr kvs k v) (Ta ps k p):=by
 have hany:(kvs.any fun kv=>decide (kv.1 = k)) = (ps.any fun kv=>decide (kv.1 = k)):=by
  clear r
  induction kvs generalizing ps with
  | nil=>cases ps with
   | nil=>rfl
   | cons y ys=>have:=h.1; simp at this
  | cons x xs ih=>cases ps with
   | nil=>have:=h.1; simp at this
   | cons y ys =>
    obtain ⟨⟨e,_⟩,h2⟩:=h.uncons
    rw [List.any_cons,List.any_cons,e,ih h2]
 unfold Gr Ta
 rw [hany]
 split
 ·refine ⟨by rw [List.length_map,List.length_map,h.1],fun i x y e1 e2=>?_⟩
  rw [List.getElem?_map] at e1 e2
  obtain ⟨x',hx,rfl⟩:=Option.map_eq_some_iff.mp e1
  obtain ⟨y',hy,rfl⟩:=Option.map_eq_some_iff.mp e2
  obtain ⟨q1,q2⟩:=h.2 i x' y' hx hy
  by_cases z:x'.1 = k
  ·rw [if_pos z,if_pos (by rw [<- q1]; exact z)]; exact ⟨q1,r⟩
  ·rw [if_neg z,if_neg (by rw [<- q1]; exact z)]; exact ⟨q1,q2⟩
 ·exact LAt.snoc h ⟨rfl,r⟩
def AeU (neg:Bool) (q p:PV) (P:PV->Prop):Prop:=∃ kvs k,p = .dk kvs/\q = kP k/\P (.bl (if neg then !(Gg kvs k).isSome else (Gg kvs k).isSome))
def AjK (neg:Bool) (ua ub:UE):UE:=fun ρ P=>ua ρ fun q=>ub ρ fun p=>AeU neg q p P
theorem Wg {G H:Hp} {v w:V} {kvs:List (Key × PV)} {k:Key} (i:Same G H) (r1:RepB K C G H w (.dk kvs)) (r2:RepB K C G H v (kP k)):∃ a o,w = .ref a/\IsD H a/\DGet H a v o/\((o = none/\Gg kvs k = none)\/∃ x p,o = some x/\Gg kvs k = some p/\Rep K C G x p):=by
 obtain ⟨a,vs,rfl,ea,l⟩:=r1.dk i
 rw [AfZ r2]
 refine ⟨a,Ci vs k,rfl,.inl ⟨_,.inl ea⟩,DGet.k ea,?_⟩
 rcases Ab4 k l with ⟨h1,h2⟩ | ⟨x,p,h1,h2,h3⟩
 ·exact .inl ⟨h1,h2⟩
 ·exact .inr ⟨x,p,h1,h2,h3⟩
theorem AhY {ta tb:TE} {ua ub:UE} (ha:EB K C ω ta ua) (hb:EB K C ω tb ub):EU K C ω (Afa ta tb) (AjK false ua ub):=fun B G0 H0 own G σ H ρ P Q S hu k =>
 ha B G0 H0 own G σ H ρ _ _ S hu fun v q G1 H1 w1 r1 h1=>hb B G0 H0 own G1 σ H1 ρ _ _ (S.grow w1) h1 fun w p G2 H2 w2 r2 ⟨kvs,key,e1,e2,h⟩=>by
  subst e1 e2
  obtain ⟨a,o,rfl,_,hg,ho⟩:=Wg w2.i r2 (r1.grow w2)
  refine ⟨a,o,rfl,hg,?_⟩
  have:o.isSome = (Gg kvs key).isSome:=by
   rcases ho with ⟨h1,h2⟩ | ⟨x,p,h1,h2,h3⟩
   ·rw [h1,h2]; rfl
   ·rw [h1,h2]; rfl
  rw [this]
  exact k _ _ G2 H2 (w1.trans w2) (.bl _) h
def Abu (p q:PV) (P:PV->Prop):Prop:=∃ kvs k x,p = .dk kvs/\q = kP k/\Gg kvs k = some x/\P x
def Agn (ua ub:UE):UE:=fun ρ P=>ua ρ fun p=>ub ρ fun q=>Abu p q P
theorem Ahk {ta tb:TE} {ua ub:UE} (ha:EB K C ω ta ua) (hb:EB K C ω tb ub):EU K C ω (AbO ta tb) (Agn ua ub):=fun B G0 H0 own G σ H ρ P Q S hu k =>
 ha B G0 H0 own G σ H ρ _ _ S hu fun v q G1 H1 w1 r1 h1=>hb B G0 H0 own G1 σ H1 ρ _ _ (S.grow w1) h1 fun w p G2 H2 w2 r2 ⟨kvs,key,x,e1,e2,e3,h⟩=>by
  subst e1 e2
  obtain ⟨a,o,rfl,_,hg,ho⟩:=Wg w2.i (r1.grow w2) r2
  rcases ho with ⟨h1,h2⟩ | ⟨y,p,h1,h2,h3⟩
  ·rw [e3] at h2; cases h2
  ·rw [e3] at h2; cases h2
   subst h1
   exact ⟨a,y,rfl,hg,k _ _ G2 H2 (w1.trans w2) h3 h⟩
def Ya (kvs:List (Key × PV)) (q z:PV) (P:PV->Prop):Prop:=∃ k,q = kP k/\P ((Gg kvs k).getD z)
def Ac8 (i:Nat) (ub uc:UE):UE:=fun ρ P=>∃ s kvs,ρ[i]? = some s/\s.val = some (.dk kvs)/\ub ρ fun q=>uc ρ fun z=>Ya kvs q z P
theorem Rf {i:Nat} {tb tc:TE} {ub uc:UE} (hb:EB K C ω tb ub) (hc:EU K C ω tc uc):EU K C ω (Xv (Ji i) tb tc) (Ac8 i ub uc):=fun B G0 H0 own G σ H ρ P Q S ⟨s,kvs,e,ev,hu⟩ k =>
 Bb B G0 H0 own G σ H ρ (fun p=>p = .dk kvs) _ S ⟨s,_,e,ev,rfl⟩ fun v q G1 H1 w1 r1 e0=>by
  subst e0
  obtain ⟨a,vs,rfl,ea,l⟩:=r1.dk w1.i
  refine ⟨a,rfl,.inl ⟨_,.inl ea⟩,hb B G0 H0 own G1 σ H1 ρ _ _ (S.grow w1) hu fun w p G2 H2 w2 r2 h2=>hc B G0 H0 own G2 σ H2 ρ _ _ ((S.grow w1).grow w2) h2 fun z pz G3 H3 w3 r3 ⟨key,e2,h⟩=>?_⟩
  subst e2
  obtain ⟨a',o,e,_,hg,ho⟩:=Wg w3.i ((r1.grow w2).grow w3) (r2.grow w3)
  cases e
  refine ⟨o,hg,?_⟩
  have w:=(w1.trans w2).trans w3
  rcases ho with ⟨h1,h2⟩ | ⟨y,p,h1,h2,h3⟩
  ·rw [h2] at h; subst h1; exact k _ _ G3 H3 w r3 h
  ·rw [h2] at h; subst h1; exact k _ _ G3 H3 w h3 h
def Abt (i:Nat) (ρ:Bh) (N:Bh->Prop) (p q:PV):Prop:=∃ kvs k,ρ[i]? = some (.ow (.dk kvs))/\q = kP k/\kvs.length < 100000/\N (ρ.set i (.ow (.dk (Ta kvs k p))))
def AfB (i:Nat) (ub uv:UE):US:=fun d ρ=>(∃ kvs,ρ[i]? = some (.ow (.dk kvs)))/\uv ρ fun p=>ub ρ fun q=>Abt i ρ d.nx p q
theorem AaW {i:Nat} {tb tv:TE} {ub uv:UE} (hb:EB K C ω tb ub) (hv:EU K C ω tv uv):SU K C ω rm (AbF (Ji i) tb tv) (AfB i ub uv):=fun B G0 H0 own G σ H ρ D d S F ⟨⟨kvs0,e0⟩,hu⟩ =>
 hv B G0 H0 own G σ H ρ _ _ S hu fun v p G1 H1 w1 r1 h1=>by
  have S1:=S.grow w1
  obtain ⟨a,ea,o,_⟩:=S.sl i _ e0
  refine ⟨_,ea,hb B G0 H0 own G1 σ H1 ρ _ _ S1 h1 fun w q G2 H2 w2 r2 ⟨kvs,k,e,e2,hl,h⟩=>?_⟩
  subst e2
  have S2:=S1.grow w2
  obtain ⟨a',ea',o',vs,ha,l⟩:=S2.sl i _ e
  rw [o] at o'; cases o'
  rw [AfZ r2]
  exact ⟨a,_,rfl,DPut.k ha (Abf (by rw [l.1]; omega)),F.nx own G2 σ _ _ (S2.chg o ea Chg.put (OwnA.ofD Bl (Ah8 l (r1.mono w2.g)))) h⟩
end
section
variable {K:PySem.W.Frag} {C:Addr} {ω:Om} {rm:Rm}
abbrev UI:=Bh->(List PV->Prop)->Prop
def Tl (ps:List PV) (ug:PV->Bh->(Bh->Prop)->Prop) (ub:US):US:=fun d ρ=>∃ I:Nat->Bh->Prop,I 0 ρ/\(∀ k p ρ,ps[k]? = some p->I k ρ->ug p ρ fun ρ'=>ub { d with nx:=I (k + 1),ct:=I (k + 1),bk:=d.nx } ρ')/\∀ ρ,I ps.length ρ->d.nx ρ
def AeS (ui:UI) (ug:PV->Bh->(Bh->Prop)->Prop) (ub:US):US:=fun d ρ=>ui ρ fun ps=>Tl ps ug ub d ρ
def bL (p:PV) (R:List PV->Prop):Prop:=∃ ps,(p = .lst ps\/∃ ns,p = .scr ns/\ps = ns.map .int)/\R ps
def uiL (ua:UE):UI:=fun ρ R=>ua ρ fun p=>bL p R
theorem Jy {B B1 G0 H0:Hp} {D:Ends} {d:Jc} {N:Bh->Prop} {M:St->Hp->Prop} (F:AbQ K C ω rm B G0 H0 D d) (hb:Same B B1) (hM:∀ own G σ H ρ,Sat K C ω B1 G0 H0 own G σ H ρ->N ρ->M σ H) :
  AbQ K C ω rm B1 G0 H0 { D with nx:=M,ct:=M,bk:=D.nx } { d with nx:=N,ct:=N,bk:=d.nx } :=
 ⟨hM,F.rt,fun own G σ H ρ S h=>F.nx own G σ H ρ (S.base (hb.trans S.kb)) h,hM⟩
theorem Qg {top:Nat} {ta:TE} {ua:UE} {g:TG} {ug:PV->Bh->(Bh->Prop)->Prop} {tb:TS} {ub:US} (ha:EU K C ω ta ua) (hg:GU K C ω top g ug) (hb:SU K C ω rm tb ub):SU K C ω rm (Qf (Tj K ta) g tb) (AeS (uiL ua) ug ub) :=
 fun B G0 H0 own G σ H ρ D d S F hu=>ha B G0 H0 own G σ H ρ _ _ S hu fun v p G1 H1 w1 r1 ⟨ps,e,I,i0,ist,iend⟩=>by
  have S1:=S.grow w1
  obtain ⟨a,vs,rfl,sq,rp⟩:∃ a vs,v = .ref a/\SqL K G1 a vs/\Reps K C G1 vs ps:=by
   rcases e with e | ⟨ns,e,e2⟩
   ·subst e
    cases r1 with
    | lst e l q=>exact ⟨_,_,rfl,SqL.of e,l,q⟩
   ·subst e e2
    cases r1 with
    | scr e=>exact ⟨_,_,rfl,e,Ff ns⟩
  refine ⟨a,rfl,⟨vs,w1.i.seq sq⟩,Uk (xs:=vs) (fun k σ' H'=>∃ own' G' ρ',Sat K C ω G1 G0 H0 own' G' σ' H' ρ'/\I k ρ') ⟨own,G1,ρ,S1.base (Same.refl _),i0⟩ (fun k σ' H' _ ⟨own',G',ρ',S',_⟩=>(S'.kb.trans S'.gr.i).seq sq) (fun k x σ' H' hx ⟨own',G',ρ',S',hi⟩=>?_) fun σ' H' ⟨own',G',ρ',S',hi⟩=>?_⟩
  ·obtain ⟨q,hq,rq⟩:=rp.get hx
   exact hg G1 G0 H0 own' G' σ' H' ρ' x q _ _ S' (rq.mono S'.kb) (ist k q ρ' hq hi) fun own2 σ2 ρ2 S2 _ h2=>hb G1 G0 H0 own2 G' σ2 H' ρ2 _ _ S2 (Jy F S1.kb fun own3 G3 σ3 H3 ρ3 S3 h3=>⟨own3,G3,ρ3,S3,h3⟩) h2
  ·rw [rp.1] at hi
   exact F.nx own' G' σ' H' ρ' (S'.base (S1.kb.trans S'.kb)) (iend ρ' hi)
def uiB (i:Nat):UI:=fun ρ R=>∃ s p ps,ρ[i]? = some s/\(s = .bo p\/s = .sh p)/\(p = .lst ps\/∃ ns,p = .scr ns/\ps = ns.map .int)/\R ps
theorem AaT {top:Nat} {i:Nat} {g:TG} {ug:PV->Bh->(Bh->Prop)->Prop} {tb:TS} {ub:US} (hg:GU K C ω top g ug) (hb:SU K C ω rm tb ub):SU K C ω rm (Qf (Tj K (Ji i)) g tb) (AeS (uiB i) ug ub) :=
 fun B G0 H0 own G σ H ρ D d S F ⟨s,p,ps,es,ek,e,I,i0,ist,iend⟩=>by
  have key:∃ a vs,σ[i]? = some (some (.ref a))/\(∀ G' H',Same G G'->Same H0 H'->Same G' H'->SqL K H' a vs)/\Reps K C G vs ps:=by
   rcases ek with ek | ek
   ·subst ek
    obtain ⟨v,ev,rb⟩:=S.sl i _ es
    rcases e with e | ⟨ns,e,e2⟩
    ·subst e
     rcases rb with rb | ⟨a,e2,vs,h1,h2⟩
     ·cases rb with
      | lst e l q=>exact ⟨_,_,ev,fun G' H' s1 s2 s3=>SqL.of (s3 _ _ (s1 _ _ (S.gr.g _ _ e))),l,fun j x y h1 h2=>(q j x y h1 h2).mono S.gr.g⟩
     ·subst e2
      exact ⟨a,vs,ev,fun G' H' s1 s2 s3=>SqL.of (s2 _ _ h1),h2.mono S.gr.g⟩
    ·subst e e2
     rcases rb with rb | ⟨a,e2,h⟩
     ·cases rb with
      | scr e=>exact ⟨_,_,ev,fun G' H' s1 s2 s3=>s3.seq (s1.seq (S.gr.g.seq e)),Ff ns⟩
     ·exact h.elim
   ·subst ek
    obtain ⟨v,ev,rb⟩:=S.sl i _ es
    rcases e with e | ⟨ns,e,e2⟩
    ·subst e
     cases rb with
     | lst e l q=>exact ⟨_,_,ev,fun G' H' s1 s2 s3=>SqL.of (s3 _ _ (s1 _ _ e)),l,q⟩
    ·subst e e2
     cases rb with
     | scr e=>exact ⟨_,_,ev,fun G' H' s1 s2 s3=>s3.seq (s1.seq e),Ff ns⟩
  obtain ⟨a,vs,ev,sq,rp⟩:=key
  refine ⟨_,ev,a,rfl,⟨vs,sq G H (Same.refl _) S.gr.h S.gr.i⟩,Uk (xs:=vs) (fun k σ' H'=>∃ own' G' ρ',Sat K C ω G G0 H0 own' G' σ' H' ρ'/\I k ρ') ⟨own,G,ρ,S.base (Same.refl _),i0⟩ (fun k σ' H' _ ⟨own',G',ρ',S',_⟩=>sq G' H' S'.kb S'.gr.h S'.gr.i) (fun k x σ' H' hx ⟨own',G',ρ',S',hi⟩=>?_) fun σ' H' ⟨own',G',ρ',S',hi⟩=>?_⟩
  ·obtain ⟨q,hq,rq⟩:=rp.get hx
   exact hg G G0 H0 own' G' σ' H' ρ' x q _ _ S' (rq.mono S'.kb) (ist k q ρ' hq hi) fun own2 σ2 ρ2 S2 _ h2=>hb G G0 H0 own2 G' σ2 H' ρ2 _ _ S2 (Jy F S.kb fun own3 G3 σ3 H3 ρ3 S3 h3=>⟨own3,G3,ρ3,S3,h3⟩) h2
  ·rw [rp.1] at hi
   exact F.nx own' G' σ' H' ρ' (S'.base (S.kb.trans S'.kb)) (iend ρ' hi)
def AbI (lo:Int) (n:Nat) (ug:PV->Bh->(Bh->Prop)->Prop) (ub:US):US:=fun d ρ=>∃ I:Nat->Bh->Prop,I 0 ρ/\(∀ k ρ,k < n->I k ρ->ug (.int (lo + k)) ρ fun ρ'=>ub { d with nx:=I (k + 1),ct:=I (k + 1),bk:=d.nx } ρ')/\∀ ρ,I n ρ->d.nx ρ
def bR1 (R:Nat->Prop) (ps:List PV):Prop:=∃ j:Int,ps = [.int j]/\-(2 ^ 62) <= j/\j < 2 ^ 62/\R j.toNat
def Af2 (u:UA) (ug:PV->Bh->(Bh->Prop)->Prop) (ub:US):US:=fun d ρ=>u ρ fun ps=>bR1 (fun n=>AbI 0 n ug ub d ρ) ps
theorem AkB {top:Nat} {B G0 H0 G H:Hp} {own:Nat->Option Addr} {σ:St} {ρ:Bh} {D:Ends} {d:Jc} {lo:Int} {n:Nat} {g:TG} {ug:PV->Bh->(Bh->Prop)->Prop} {tb:TS} {ub:US} (hg:GU K C ω top g ug) (hb:SU K C ω rm tb ub) (S:Sat K C ω B G0 H0 own G σ H ρ) (F:AbQ K C ω rm B G0 H0 D d) (h:AbI lo n ug ub d ρ) :
  ∃ W:Nat->Nat->St->Hp->Prop,(∃ m,W 0 m σ H)/\∀ i m σ H,W i m σ H->((Itr lo n).stop i H/\D.nx σ H)\/((Itr lo n).go i H/\∃ N:St->Hp->Prop,(∀ σ' H',N σ' H'->∃ m',m' < m/\W (i + 1) m' σ' H')/\∀ x H',(Itr lo n).yld i H x H'->g x σ H' fun σ2 H2=>tb { D with nx:=N,ct:=N,bk:=D.nx } σ2 H2):=by
 obtain ⟨I,i0,ist,iend⟩:=h
 refine Ws (fun k σ' H'=>∃ own' G' ρ',Sat K C ω B G0 H0 own' G' σ' H' ρ'/\I k ρ') ⟨own,G,ρ,S,i0⟩ (fun k σ' H' hk ⟨own',G',ρ',S',hi⟩=>?_) fun σ' H' ⟨own',G',ρ',S',hi⟩=>F.nx own' G' σ' H' ρ' S' (iend ρ' hi)
 exact hg B G0 H0 own' G' σ' H' ρ' _ _ _ _ S' (.int _) (ist k ρ' hk hi) fun own2 σ2 ρ2 S2 _ h2=>hb B G0 H0 own2 G' σ2 H' ρ2 _ _ S2 (Jy F (Same.refl _) fun own3 G3 σ3 H3 ρ3 S3 h3=>⟨own3,G3,ρ3,S3,h3⟩) h2
theorem Ahx {top:Nat} {m:Bool} {t:TA} {u:UA} {g:TG} {ug:PV->Bh->(Bh->Prop)->Prop} {tb:TS} {ub:US} (ha:AU K C ω [m] t u) (hg:GU K C ω top g ug) (hb:SU K C ω rm tb ub):SU K C ω rm (Qf (Ve t) g tb) (Af2 u ug ub) :=
 fun B G0 H0 own G σ H ρ D d S F hu=>ha B G0 H0 own G σ H ρ _ _ S hu fun vs ps G1 H1 w1 ok ⟨j,e,h1,h2,h⟩=>by
  obtain ⟨v,p,rfl,e2,r⟩:=Oc ok
  rw [e] at e2; cases e2
  exact ⟨j,by rw [r.int],h1,h2,AkB hg hb (S.grow w1) F h⟩
def AiF (uc:UT) (ub:US):US:=fun d ρ=>∃ I:Nat->Bh->Prop,(∃ m,I m ρ)/\∀ m ρ,I m ρ->uc ρ fun b=>if b = true then ub { d with nx:=fun ρ'=>∃ m',m' < m/\I m' ρ',ct:=fun ρ'=>∃ m',m' < m/\I m' ρ',bk:=d.nx } ρ else d.nx ρ
theorem Xw {tc:TT} {uc:UT} {tb:TS} {ub:US} (hc:TU K C ω tc uc) (hb:SU K C ω rm tb ub):SU K C ω rm (AcK tc tb) (AiF uc ub):=fun B G0 H0 own G σ H ρ D d S F ⟨I,⟨m,i0⟩,ist⟩ =>
 ⟨fun m σ' H'=>∃ own' G' ρ',Sat K C ω B G0 H0 own' G' σ' H' ρ'/\I m ρ',⟨m,own,G,ρ,S,i0⟩,fun m σ' H' ⟨own',G',ρ',S',hi⟩=>hc B G0 H0 own' G' σ' H' ρ' _ _ S' (ist m ρ' hi) fun b G1 H1 w1 h1=>by
  cases b with
  | false=>exact Nd (F.nx own' G1 σ' H1 ρ' (S'.grow w1) (by simpa using h1))
  | true =>
   refine Jr ?_
   refine ⟨fun σ2 H2=>∃ m',m' < m/\∃ own2 G2 ρ2,Sat K C ω B G0 H0 own2 G2 σ2 H2 ρ2/\I m' ρ2,fun σ2 H2 h=>h,hb B G0 H0 own' G1 σ' H1 ρ' _ _ (S'.grow w1) (Jy (N:=fun ρ'=>∃ m',m' < m/\I m' ρ') F (Same.refl _) fun own3 G3 σ3 H3 ρ3 S3 ⟨m',hm,h3⟩=>⟨m',hm,own3,G3,ρ3,S3,h3⟩) (by simpa using h1)⟩⟩
end
section
variable {K:PySem.W.Frag} {C:Addr} {ω:Om}
def boS:Sl->Sl
 | .ow p=>.bo p
 | s=>s
def compρ (k:Nat) (fr:List Nat) (ρ:Bh):Bh:=List.replicate k .un ++ fr.map fun i=>boS ((ρ[i]?).getD .un)
theorem Sat.comp {B G0 H0 G1 H1:Hp} {own:Nat->Option Addr} {σ:St} {ρ:Bh} (S:Sat K C ω B G0 H0 own G1 σ H1 ρ) (k:Nat) (fr:List Nat) {G H:Hp} (w:Grow G1 H1 G H):Sat K C Om.no G1 G1 H1 (fun _=>none) G (compσ k fr σ) H (compρ k fr ρ):=by
 refine ⟨w.g,w,?_,fun i j a h=>(by cases h),fun i a h=>(by cases h),fun i s h=>?_,fun _ _ _ z=>z.elim⟩
 ·unfold compσ compρ; simp
 ·by_cases hk:i < k
  ·unfold compρ at h
   rw [List.getElem?_append_left (by rw [List.length_replicate]; exact hk),List.getElem?_replicate,if_pos hk] at h
   cases h; trivial
  ·unfold compρ at h
   rw [List.getElem?_append_right (by rw [List.length_replicate]; omega),List.length_replicate,List.getElem?_map] at h
   obtain ⟨j,hj,e⟩:=Option.map_eq_some_iff.mp h
   have hσ:(compσ k fr σ)[i]? = some (σ[j]?).join:=by
    unfold compσ
    rw [List.getElem?_append_right (by rw [List.length_replicate]; omega),List.length_replicate,List.getElem?_map,hj]; rfl
   cases e2:ρ[j]? with
   | none=>rw [e2] at e; cases e; trivial
   | some s0 =>
    rw [e2] at e
    have q:=S.sl j s0 e2
    cases s0 with
    | un=>cases e; trivial
    | sh p=>cases e; obtain ⟨v,ev,r⟩:=q; exact ⟨v,by rw [hσ,ev]; rfl,r.mono w.g⟩
    | bo p=>cases e; obtain ⟨v,ev,r⟩:=q; exact ⟨v,by rw [hσ,ev]; rfl,r.grow S.gr⟩
    | ow p=>cases e; obtain ⟨a,ev,_,r⟩:=q; exact ⟨_,by rw [hσ,ev]; rfl,.inr ⟨a,rfl,r⟩⟩
def Af7:UT:=fun _ P=>P true
theorem Jf:TU K C ω Abm Af7:=fun B G0 H0 own G σ H ρ P Q S hu k=>k true G H (Grow.refl S.gr.i) hu
def Sk (ps:List PV) (ug:PV->Bh->(Bh->Prop)->Prop) (uc:UT) (ue:UE) (ρ':Bh) (P:PV->Prop):Prop:=∃ I:Nat->List PV->Prop,I 0 []/\(∀ n p rs,ps[n]? = some p->I n rs->ug p ρ' fun ρ2=>uc ρ2 fun b=>if b = true then ue ρ2 fun q=>I (n + 1) (rs ++ [q]) else I (n + 1) rs)/\∀ rs,I ps.length rs->P (.lst rs)
def CSt (K:PySem.W.Frag) (C:Addr) (G1 H1:Hp) (D:Addr) (I:Nat->List PV->Prop) (n:Nat) (H:Hp):Prop:=∃ G ys rs,Grow G1 H1 G H/\G D = none/\H D = some (.lst ys)/\Reps K C G ys rs/\rs.length <= n/\I n rs
theorem Oy {B G0 H0 G1 H1:Hp} {own:Nat->Option Addr} {σ:St} {ρ:Bh} (S:Sat K C ω B G0 H0 own G1 σ H1 ρ) {k:Nat} {fr:List Nat} {g:TG} {ug:PV->Bh->(Bh->Prop)->Prop} {tc:TT} {uc:UT} {te:TE} {ue:UE} (hg:GU K C Om.no k g ug) (hc:TU K C Om.no tc uc) (he:EU K C Om.no te ue) {D:Addr} (hD:H1 D = none) {I:Nat->List PV->Prop} {n:Nat} (hn:n < 100000) {x:V} {p:PV} {H':Hp} {N:Hp->Prop}
  (rx:∀ G,Same G1 G->Rep K C G x p) (st:CSt K C G1 H1 D I n H') (hN:∀ H'',CSt K C G1 H1 D I (n + 1) H''->N H'') (hs:∀ rs,I n rs->ug p (compρ k fr ρ) fun ρ2=>uc ρ2 fun b=>if b = true then ue ρ2 fun q=>I (n + 1) (rs ++ [q]) else I (n + 1) rs) :
  g x (compσ k fr σ) H' fun σ2 H2=>σ2.drop k = (compσ k fr σ).drop k/\tc σ2 H2 fun b H3=>if b = true then te σ2 H3 (fun y H4=>∃ ys,H4 D = some (.lst ys)/\ys.length < sizeLine/\N (upd H4 D (.lst (ys ++ [y])))) else N H3:=by
 obtain ⟨G,ys,rs,w,gD,eD,ry,hl,hi⟩:=st
 refine hg G1 G1 H1 _ G _ H' _ x p _ _ (S.comp k fr w) (rx G w.g) (hs rs hi) fun own' σ' ρ' S' dr h=>⟨dr,hc G1 G1 H1 own' G σ' H' ρ' _ _ S' h fun b G3 H3 w3 h3=>?_⟩
 cases b with
 | false=>exact Nd (hN _ ⟨G3,ys,rs,w.trans w3,w3.n D _ eD (fun _ z=>nomatch z) gD,w3.h _ _ eD,ry.mono w3.g,by omega,by simpa using h3⟩)
 | true =>
  refine Jr (he G1 G1 H1 own' G3 σ' H3 ρ' _ _ (S'.grow w3) (by simpa using h3) fun y q G4 H4 w4 r4 h4=>?_)
  have w34:=w3.trans w4
  have g4:G4 D = none:=w34.n D _ eD (fun _ z=>nomatch z) gD
  have e4:H4 D = some (.lst ys):=w34.h _ _ eD
  refine ⟨ys,e4,Abf (by rw [ry.1]; omega),hN _ ⟨G4,_,_,⟨(w.trans w34).g,fun b u h=>?_,fun b u h=>?_,(w.trans w34).n⟩,g4,Bl,Wn (ry.mono w34.g) r4,by rw [List.length_append]; simp; omega,h4⟩⟩
  ·rw [Bg (by intro z; subst z; rw [hD] at h; cases h)]; exact (w.trans w34).h _ _ h
  ·rw [Bg (by intro z; subst z; rw [g4] at h; cases h)]; exact w34.i _ _ h
theorem Qb {G1 H1:Hp} {D:Addr} {I:Nat->List PV->Prop} (i:Same G1 H1) (hD:H1 D = none) (h:I 0 []):CSt K C G1 H1 D I 0 (upd H1 D (.lst [])) :=
 ⟨G1,[],[],Grow.own i (Same.new hD),i.free hD,Bl,LAt.nil,by simp,h⟩
def Af6 (ua:UE) (ug:PV->Bh->(Bh->Prop)->Prop) (uc:UT) (ue:UE) (k:Nat) (fr:List Nat):UE:=fun ρ P=>ua ρ fun p=>bL p fun ps=>ps.length <= 100000/\Sk ps ug uc ue (compρ k fr ρ) P
theorem Gc {ta:TE} {ua:UE} {k:Nat} {fr:List Nat} {g:TG} {ug:PV->Bh->(Bh->Prop)->Prop} {tc:TT} {uc:UT} {te:TE} {ue:UE} (ha:EB K C ω ta ua) (hg:GU K C Om.no k g ug) (hc:TU K C Om.no tc uc) (he:EU K C Om.no te ue):EF K C ω (Jm (Tj K ta) g tc te k fr) (Af6 ua ug uc ue k fr) :=
 fun B G0 H0 own G σ H ρ P Q S hu kk=>Lp (Ae5 (ha B G0 H0 own G σ H ρ _ _ S hu fun v p G1 H1 w1 r1 ⟨ps,e,hl,I,i0,ist,iend⟩=>by
  have S1:=S.grow w1
  obtain ⟨a,vs,rfl,sq,rp⟩:∃ a vs,v = .ref a/\SqL K H1 a vs/\Reps K C G1 vs ps:=by
   rcases e with e | ⟨ns,e,e2⟩
   ·subst e
    obtain ⟨a,vs,rfl,ea,l⟩:=r1.lst w1.i
    exact ⟨a,vs,rfl,SqL.of ea,l⟩
   ·subst e e2
    obtain ⟨a,rfl,ea⟩:=r1.scr w1.i
    exact ⟨a,_,rfl,ea,Ff ns⟩
  refine ⟨a,rfl,⟨vs,sq⟩,fun D hD=>CP.list vs (CSt K C G1 H1 D I) (Qb w1.i hD i0) (fun n H' _ ⟨G',_,_,w,_⟩=>w.h.seq sq) (fun n x H' N hx st hN=>?_) fun H' st=>?_⟩
  ·obtain ⟨q,hq,rq⟩:=rp.get hx
   have hn:n < ps.length:=(List.getElem?_eq_some_iff.mp hq).1
   exact Oy S1 hg hc he hD (by omega) (fun G' s=>rq.mono s) st hN fun rs hi=>ist n q rs hq hi
  ·obtain ⟨G',ys,rs,w,gD,eD,ry,_,hi⟩:=st
   rw [rp.1] at hi
   exact kk D _ G' H' (w1.trans w) (w1.h.free hD) gD (OwnA.ofL eD ry) (iend rs hi)))
def Zt (ug:PV->Bh->(Bh->Prop)->Prop) (uc:UT) (ue:UE) (ρ':Bh) (P:PV->Prop) (ps:List PV):Prop:=∃ j:Int,ps = [.int j]/\-(2 ^ 62) <= j/\j < 100000/\∃ I:Nat->List PV->Prop,I 0 []/\(∀ n rs,n < j.toNat->I n rs->ug (.int (0 + n)) ρ' fun ρ2=>uc ρ2 fun b=>if b = true then ue ρ2 fun q=>I (n + 1) (rs ++ [q]) else I (n + 1) rs)/\∀ rs,I j.toNat rs->P (.lst rs)
def AcG (u:UA) (ug:PV->Bh->(Bh->Prop)->Prop) (uc:UT) (ue:UE) (k:Nat) (fr:List Nat):UE:=fun ρ P=>u ρ fun ps=>Zt ug uc ue (compρ k fr ρ) P ps
theorem Ae7 {m:Bool} {t:TA} {u:UA} {k:Nat} {fr:List Nat} {g:TG} {ug:PV->Bh->(Bh->Prop)->Prop} {tc:TT} {uc:UT} {te:TE} {ue:UE} (ha:AU K C ω [m] t u) (hg:GU K C Om.no k g ug) (hc:TU K C Om.no tc uc) (he:EU K C Om.no te ue):EF K C ω (Jm (Ve t) g tc te k fr) (AcG u ug uc ue k fr) :=
 fun B G0 H0 own G σ H ρ P Q S hu kk=>Lp (Afy (ha B G0 H0 own G σ H ρ _ _ S hu fun vs ps G1 H1 w1 ok ⟨j,e,h1,h2,I,i0,ist,iend⟩=>by
  have S1:=S.grow w1
  obtain ⟨v,p,rfl,e2,r⟩:=Oc ok
  rw [e] at e2; cases e2
  refine ⟨j,by rw [r.int],h1,by omega,fun D hD=>CP.range (CSt K C G1 H1 D I) (Qb w1.i hD i0) (fun n H' N hx st hN=>Oy S1 hg hc he hD (by omega) (fun G' s=>.int _) st hN fun rs hi=>ist n rs hx hi) fun H' st=>?_⟩
  obtain ⟨G',ys,rs,w,gD,eD,ry,_,hi⟩:=st
  exact kk D _ G' H' (w1.trans w) (w1.h.free hD) gD (OwnA.ofL eD ry) (iend rs hi)))
end
section
variable {K:PySem.W.Frag} {C:Addr} {ω:Om}
abbrev PSp:=List PV->(PV->Prop)->Prop
def spOf (K:PySem.W.Frag) (C:Addr) (ms:List Bool) (rm:Rm) (psp:PSp):Sp:=fun vs H Q _=>∃ G ps P,Same G H/\ArgsOk K C G H ms vs ps/\psp ps P/\∀ G' H' v p,Grow G H G' H'->ROk K C rm H G' H' v p->P p->Q v H'
def Qz (psp:PSp) (u:UA):UE:=fun ρ P=>u ρ fun ps=>psp ps P
theorem Tw {ms:List Bool} {psp:PSp} {E:XK} {t:TA} {u:UA} (ha:AU K C ω ms t u):EU K C ω (Oz (spOf K C ms .sh psp) [] E t) (Qz psp u) :=
 fun B G0 H0 own G σ H ρ P Q S hu k=>ha B G0 H0 own G σ H ρ _ _ S hu fun vs ps G1 H1 w1 ok h=>by
  rw [List.append_nil]
  exact ⟨G1,ps,P,w1.i,ok,h,fun G' H' v p w r hp=>k v p G' H' (w1.trans w) r hp⟩
theorem Dz {ms:List Bool} {psp:PSp} {E:XK} {t:TA} {u:UA} (ha:AU K C ω ms t u):EF K C ω (Oz (spOf K C ms .fr psp) [] E t) (Qz psp u) :=
 fun B G0 H0 own G σ H ρ P Q S hu k=>ha B G0 H0 own G σ H ρ _ _ S hu fun vs ps G1 H1 w1 ok h=>by
  rw [List.append_nil]
  exact ⟨G1,ps,P,w1.i,ok,h,fun G' H' v p w ⟨a,e,n,g,r⟩ hp=>by subst e; exact k a p G' H' (w1.trans w) (w1.h.free n) g r hp⟩
def Fc (n:Nat) (ms:List Bool) (ps:List PV):Bh:=List.zipWith (fun m p=>if m = true then Sl.sh p else Sl.bo p) ms ps ++ List.replicate (n - ps.length) .un
def Gs (rm:Rm) (P:PV->Prop):Bh->Prop:=match rm with
 | .sh=>fun _=>P .non
 | .fr=>fun _=>False
theorem ArgsOk.slots {G H:Hp} {own:Nat->Option Addr}:∀ {ms:List Bool} {vs:List V} {ps:List PV} {i:Nat} {s:Sl} {σ:St} (k:Nat),ArgsOk K C G H ms vs ps->(∀ j v,vs[j]? = some v->σ[k + j]? = some (some v))->(List.zipWith (fun m p=>if m = true then Sl.sh p else Sl.bo p) ms ps)[i]? = some s->SlOk K C G H own G σ H (k + i) s
 | true :: ms,v :: vs,p :: ps,0,s,σ,k,ok,hσ,h=>by cases h; exact ⟨v,hσ 0 v rfl,ok.1⟩
 | false :: ms,v :: vs,p :: ps,0,s,σ,k,ok,hσ,h=>by cases h; exact ⟨v,hσ 0 v rfl,ok.1⟩
 | true :: ms,v :: vs,p :: ps,i + 1,s,σ,k,ok,hσ,h=>by
  have:=ArgsOk.slots (i:=i) (s:=s) (σ:=σ) (own:=own) (k + 1) ok.2 (fun j w hj=>by rw [show k + 1 + j = k + (j + 1) by omega]; exact hσ (j + 1) w (by simpa using hj)) (by simpa using h)
  rwa [show k + 1 + i = k + (i + 1) by omega] at this
 | false :: ms,v :: vs,p :: ps,i + 1,s,σ,k,ok,hσ,h=>by
  have:=ArgsOk.slots (i:=i) (s:=s) (σ:=σ) (own:=own) (k + 1) ok.2 (fun j w hj=>by rw [show k + 1 + j = k + (j + 1) by omega]; exact hσ (j + 1) w (by simpa using hj)) (by simpa using h)
  rwa [show k + 1 + i = k + (i + 1) by omega] at this
 | [],_,_,_,_,_,_,_,_,h=>by simp at h
 | _ :: _,_,[],_,_,_,_,_,_,h=>by simp at h
 | true :: _,[],_ :: _,_,_,_,_,ok,_,_=>by cases ok
 | false :: _,[],_ :: _,_,_,_,_,ok,_,_=>by cases ok
theorem Dr {ms:List Bool} {rm:Rm} {psp:PSp} {N:List Str} {vs:List V} {H:Hp} {Q:VK} {E:XK} {t:TS} {u:US} (h:spOf K C ms rm psp vs H Q E) (hn:ms.length <= N.length) (hs:SU K C Om.no rm t u)
  (hp:∀ ps P,psp ps P->u ⟨Gs rm P,P,fun _=>False,fun _=>False⟩ (Fc N.length ms ps)):t { nx:=fun _ H'=>Q .non H',rt:=Q } (L2.Qd N vs) H:=by
 obtain ⟨G,ps,P,i,ok,hq,k⟩:=h
 obtain ⟨l1,l2⟩:=ok.len
 have hz:(List.zipWith (fun m p=>if m = true then Sl.sh p else Sl.bo p) ms ps).length = ps.length:=by rw [List.length_zipWith,l2]; omega
 refine hs G G H (fun _=>none) G _ H _ _ ⟨Gs rm P,P,fun _=>False,fun _=>False⟩ ⟨Same.refl _,Grow.refl i,?_,fun i j a z=>(by cases z),fun i a z=>(by cases z),fun j s hj=>?_,fun _ _ _ z=>z.elim⟩ ⟨fun own' G' σ' H' ρ' S' q=>?_,fun G' H' v p w r hp=>k G' H' v p w r hp,fun _ _ _ _ _ _ q=>q.elim,fun _ _ _ _ _ _ q=>q.elim⟩ (hp ps P hq)
 ·unfold L2.Qd Fc
  rw [List.length_append,List.length_append,List.length_map,hz,List.length_replicate,List.length_replicate,l1,l2]
 ·unfold Fc at hj
  by_cases z:j < ps.length
  ·rw [List.getElem?_append_left (by rw [hz]; exact z)] at hj
   have q:=ArgsOk.slots (own:=fun _=>none) (σ:=L2.Qd N vs) 0 ok (fun j v hv=>by
    unfold L2.Qd
    rw [Nat.zero_add,List.getElem?_append_left (by rw [List.length_map]; exact (List.getElem?_eq_some_iff.mp hv).1),List.getElem?_map,hv]; rfl) hj
   rwa [Nat.zero_add] at q
  ·rw [List.getElem?_append_right (by rw [hz]; omega),List.getElem?_replicate] at hj
   split at hj
   ·cases hj; trivial
   ·cases hj
 ·cases rm with
  | sh=>exact k G' H' .non .non S'.gr .non q
  | fr=>exact q.elim
theorem spOf.len {ms:List Bool} {rm:Rm} {psp:PSp} {vs:List V} {H:Hp} {Q:VK} {E:XK} (h:spOf K C ms rm psp vs H Q E):vs.length = ms.length:=by
 obtain ⟨G,ps,P,i,ok,_⟩:=h
 exact ok.len.1
end
section
variable {K:PySem.W.Frag} {C:Addr} {ω:Om}
def Vn:PV->Bool
 | .non=>true
 | .int _=>true
 | .str _=>true
 | _=>false
theorem Aar {G:Hp} {v:V} {p:PV} (h:Rep K C G v p) (f:Vn p = true):Le v = true:=by
 cases h <;> first | rfl | (cases f; done)
theorem Ag3 {G:Hp} {v w:V} {p q:PV} (h1:Rep K C G v p) (h2:Rep K C G w q) (f1:Vn p = true) (f2:Vn q = true):eqV v w = true ↔ p = q:=by
 cases h1 <;> first | (cases f1; done) | (cases h2 <;> first | (cases f2; done) | (simp [eqV]))
inductive Cmp:Nat->PV->PV->Prop where
 | flat {n:Nat} {p q:PV} (hp:Vn p = true) (hq:Vn q = true):Cmp n p q
 | bl {n:Nat} {x y:Bool}:Cmp n (.bl x) (.bl y)
 | lst {n:Nat} {xs ys:List PV} (h:xs.length = ys.length->∀ (i:Nat) (x y:PV),xs[i]? = some x->ys[i]? = some y->Cmp n x y):Cmp (n + 1) (.lst xs) (.lst ys)
 | tup {n:Nat} {xs ys:List PV} (h:∀ (i:Nat) (x y:PV),xs[i]? = some x->ys[i]? = some y->Cmp n x y):Cmp (n + 1) (.tup xs) (.tup ys)
theorem Na {α:Type} {xs ys:List α} (hl:xs.length = ys.length) (h:∀ (i:Nat) (x y:α),xs[i]? = some x->ys[i]? = some y->x = y):xs = ys:=by
 refine List.ext_getElem? fun i=>?_
 cases e1:xs[i]? with
 | none=>rw [List.getElem?_eq_none (by have:=List.getElem?_eq_none_iff.mp e1; omega)]
 | some x =>
  have hi:i < ys.length:=by have:=(List.getElem?_eq_some_iff.mp e1).1; omega
  rw [List.getElem?_eq_getElem hi,h i x _ e1 (List.getElem?_eq_getElem hi)]
theorem Cmp.fn {G:Hp} {n:Nat} {p q:PV} (c:Cmp n p q):∀ {v:V},Rep K C G v p->Rep K C G v q->p = q:=by
 induction c with
 | flat hp hq=>intro v h1 h2; cases h1 <;> first | (cases hp; done) | (cases h2 <;> first | (cases hq; done) | rfl)
 | bl=>intro v h1 h2; cases h1; cases h2; rfl
 | @lst n xs ys h ih =>
  intro v h1 h2
  cases h1 with
  | lst e1 l1 q1=>cases h2 with
   | lst e2 l2 q2 =>
    rw [e1] at e2; cases e2
    have hl:xs.length = ys.length:=l1.symm.trans l2
    refine congrArg _ (Na hl fun i x y hx hy=>?_)
    have hi:=(List.getElem?_eq_some_iff.mp hx).1
    obtain ⟨w,hw⟩:=(⟨_,List.getElem?_eq_getElem (by rw [l1]; exact hi)⟩:∃ w,_ = some w)
    exact ih hl i x y hx hy (q1 i w x hw hx) (q2 i w y hw hy)
 | @tup n xs ys h ih =>
  intro v h1 h2
  cases h1 with
  | tup e1 l1 q1=>cases h2 with
   | tup e2 l2 q2 =>
    rw [e1] at e2; cases e2
    have hl:xs.length = ys.length:=l1.symm.trans l2
    refine congrArg _ (Na hl fun i x y hx hy=>?_)
    have hi:=(List.getElem?_eq_some_iff.mp hx).1
    obtain ⟨w,hw⟩:=(⟨_,List.getElem?_eq_getElem (by rw [l1]; exact hi)⟩:∃ w,_ = some w)
    exact ih i x y hx hy (q1 i w x hw hx) (q2 i w y hw hy)
noncomputable def pd (a:Prop):Bool:=@decide a (Classical.propDecidable a)
theorem pd_iff {a:Prop}:pd a = true ↔ a:=by unfold pd; exact @decide_eq_true_iff a (Classical.propDecidable a)
theorem Ss {n:Nat} {e:Nat->Bool}:(List.range n).all e = true ↔ ∀ i,i < n->e i = true:=by
 rw [List.all_eq_true]
 exact ⟨fun h i hi=>h i (List.mem_range.mpr hi),fun h i hi=>h i (List.mem_range.mp hi)⟩
theorem Lk {a b:Bool} (h:a = true ↔ b = true):a = b:=by
 cases a <;> cases b <;> simp_all
theorem Cmp.eqD {G H:Hp} (s:Same G H) {n:Nat} {p q:PV} (c:Cmp n p q):∀ {v w:V} {b:Bool},Rep K C G v p->Rep K C G w q->(b = true ↔ p = q)->EqD K H n v w b:=by
 induction c with
 | flat hp hq =>
  intro v w b h1 h2 hb
  have e:b = eqV v w:=Lk (hb.trans (Ag3 h1 h2 hp hq).symm)
  rw [e]
  exact EqD.flat (Aar h1 hp) (Aar h2 hq)
 | @bl n x y =>
  intro v w b h1 h2 hb
  cases h1
  cases h2
  have e:b = eqV (.bl x) (.bl y):=Lk (by rw [hb]; cases x <;> cases y <;> simp [eqV])
  rw [e]
  exact EqD.flat rfl rfl
 | @lst n xs ys h ih =>
  intro v w b h1 h2 hb
  have cc:Cmp (n + 1) (.lst xs) (.lst ys):=.lst h
  have h1':=h1
  have h2':=h2
  cases h1 with
  | @lst a1 vs1 _ e1 l1 q1=>cases h2 with
   | @lst a2 vs2 _ e2 l2 q2 =>
    by_cases z:a1 = a2
    ·subst z
     rw [show b = true from hb.mpr (cc.fn h1' h2')]
     exact EqD.same _
    ·by_cases hl:xs.length = ys.length
     ·have e:b = (List.range vs1.length).all (fun i=>pd (xs[i]? = ys[i]?)):=Lk (by
       rw [hb,Ss]
       constructor
       ·intro e i _; rw [pd_iff,PV.lst.inj e]
       ·intro e
        refine congrArg _ (List.ext_getElem? fun i=>?_)
        by_cases hi:i < vs1.length
        ·exact pd_iff.mp (e i hi)
        ·rw [List.getElem?_eq_none (by omega),List.getElem?_eq_none (by omega)])
      rw [e]
      refine EqD.lst _ z (SqL.of (s _ _ e1)) (SqL.of (s _ _ e2)) (by omega) fun i x y hx hy=>?_
      have hi:=(List.getElem?_eq_some_iff.mp hx).1
      have hx':xs[i]? = some xs[i]:=List.getElem?_eq_getElem (by omega)
      have hy':ys[i]? = some ys[i]:=List.getElem?_eq_getElem (by omega)
      refine ih hl i _ _ hx' hy' (q1 i x _ hx hx') (q2 i y _ hy hy') ?_
      rw [pd_iff,hx',hy']
      exact ⟨fun z=>Option.some.inj z,fun z=>congrArg some z⟩
     ·have e:b = false:=by
       cases b with
       | false=>rfl
       | true=>exact absurd (congrArg List.length (PV.lst.inj (hb.mp rfl))) hl
      rw [e]
      exact EqD.lstN z (SqL.of (s _ _ e1)) (SqL.of (s _ _ e2)) (by omega)
 | @tup n xs ys h ih =>
  intro v w b h1 h2 hb
  have cc:Cmp (n + 1) (.tup xs) (.tup ys):=.tup h
  have h1':=h1
  have h2':=h2
  cases h1 with
  | @tup a1 vs1 _ e1 l1 q1=>cases h2 with
   | @tup a2 vs2 _ e2 l2 q2 =>
    by_cases z:a1 = a2
    ·subst z
     rw [show b = true from hb.mpr (cc.fn h1' h2')]
     exact EqD.same _
    ·have e:b = ((List.range (min vs1.length vs2.length)).all (fun i=>pd (xs[i]? = ys[i]?)) && vs1.length == vs2.length):=Lk (by
      rw [hb,Bool.and_eq_true,Ss]
      constructor
      ·intro e
       have e':=PV.tup.inj e
       exact ⟨fun i _=>by rw [pd_iff,e'],by rw [l1,l2,e']; exact beq_self_eq_true _⟩
      ·rintro ⟨e,el⟩
       have el':vs1.length = vs2.length:=by simpa using el
       refine congrArg _ (List.ext_getElem? fun i=>?_)
       by_cases hi:i < vs1.length
       ·exact pd_iff.mp (e i (by omega))
       ·rw [List.getElem?_eq_none (by omega),List.getElem?_eq_none (by omega)])
     rw [e]
     refine EqD.tup _ z (SqT.of (s _ _ e1)) (SqT.of (s _ _ e2)) fun i x y hx hy=>?_
     have hi:=(List.getElem?_eq_some_iff.mp hx).1
     have hj:=(List.getElem?_eq_some_iff.mp hy).1
     have hx':xs[i]? = some xs[i]:=List.getElem?_eq_getElem (by omega)
     have hy':ys[i]? = some ys[i]:=List.getElem?_eq_getElem (by omega)
     refine ih i _ _ hx' hy' (q1 i x _ hx hx') (q2 i y _ hy hy') ?_
     rw [pd_iff,hx',hy']
     exact ⟨fun z=>Option.some.inj z,fun z=>congrArg some z⟩
def CmpL (xs ys:List PV):Prop:=xs.length = ys.length->∀ (i:Nat) (x y:PV),xs[i]? = some x->ys[i]? = some y->Cmp 40 x y
theorem CmpL.leq {G H:Hp} (s:Same G H) {vs ws:List V} {xs ys:List PV} (c:CmpL xs ys) (h1:Reps K C G vs xs) (h2:Reps K C G ws ys) {b:Bool} (hb:b = true ↔ xs = ys):LEq K H vs ws b:=by
 by_cases hl:xs.length = ys.length
 ·refine .inr ⟨by rw [h1.1,h2.1,hl],fun i=>pd (xs[i]? = ys[i]?),fun i x y hx hy=>?_,Lk ?_⟩
  ·obtain ⟨p,hp,rp⟩:=h1.get hx
   obtain ⟨q,hq,rq⟩:=h2.get hy
   refine (c hl i p q hp hq).eqD s rp rq ?_
   rw [pd_iff,hp,hq]
   exact ⟨fun z=>Option.some.inj z,fun z=>congrArg some z⟩
  ·rw [hb,Ss,h1.1]
   constructor
   ·intro e i _; rw [pd_iff,e]
   ·intro e
    refine List.ext_getElem? fun i=>?_
    by_cases hi:i < xs.length
    ·exact pd_iff.mp (e i hi)
    ·rw [List.getElem?_eq_none (by omega),List.getElem?_eq_none (by omega)]
 ·refine .inl ⟨by rw [h1.1,h2.1]; exact hl,?_⟩
  cases b with
  | false=>rfl
  | true=>exact absurd (congrArg List.length (hb.mp rfl)) hl
def Abs (neg:Bool) (p q:PV) (P:PV->Prop):Prop:=∃ xs ys,p = .lst xs/\q = .lst ys/\CmpL xs ys/\∀ b:Bool,(b = true ↔ xs = ys)->P (.bl (if neg then !b else b))
def AjW (neg:Bool) (ua ub:UE):UE:=fun ρ P=>ua ρ fun p=>ub ρ fun q=>Abs neg p q P
theorem Aaa {neg:Bool} {ta tb:TE} {ua ub:UE} (ha:EB K C ω ta ua) (hb:EB K C ω tb ub):EU K C ω (tOp (Wb K neg) ta tb) (AjW neg ua ub) :=
 fun B G0 H0 own G σ H ρ P Q S hu k=>two ha hb S hu fun v w p q G' H' gr r1 r2 ⟨xs,ys,e1,e2,c,h⟩=>by
  subst e1 e2
  obtain ⟨a,vs,rfl,ea,l⟩:=r1.lst gr.i
  obtain ⟨b,ws,rfl,eb,l2⟩:=r2.lst gr.i
  exact ⟨a,b,vs,ws,pd (xs = ys),rfl,rfl,SqL.of ea,SqL.of eb,c.leq gr.i l l2 pd_iff,k _ _ G' H' gr (.bl _) (h _ pd_iff)⟩
def tyP:PV->Option String
 | .non=>some "NoneType"
 | .bl _=>some "bool"
 | .int _=>some "int"
 | .str _=>some "str"
 | .lst _=>some "list"
 | .tup _=>some "tuple"
 | .dk _=>some "dict"
 | .dt _=>some "dict"
 | _=>none
def kit (T n:String):Bool:=T == n || (T == "bool" && n == "int")
def Agq:List String:=["NoneType","bool","int","str","list","tuple","dict"]
def Agw:List String:=["bool","int","str","list","tuple","dict"]
theorem AgJ:∀ T ∈ Agq,∀ n ∈ Agw,(if (Value.type T == Value.type n) = true then some true else if PySem.W.kitMeta n = true then (fastBuiltinMro T).map (·.contains (Value.type n)) else none) = some (kit T n):=by decide +kernel
theorem Alm {G H:Hp} (i:Same G H) {v:V} {p:PV} {T:String} (h:RepB K C G H v p) (e:tyP p = some T):Ge K H v (.type T)/\T ∈ Agq:=by
 cases p <;> first | cases e | skip
 ·rcases h with h | ⟨_,_,h⟩
  ·cases h; exact ⟨.non,by decide⟩
  ·exact h.elim
 ·rw [h.bl]; exact ⟨.bl _,by decide⟩
 ·rw [h.int]; exact ⟨.int _,by decide⟩
 ·rw [h.str]; exact ⟨.str _,by decide⟩
 ·obtain ⟨a,vs,rfl,ea,l⟩:=h.lst i; exact ⟨.lst ea,by decide⟩
 ·obtain ⟨a,vs,rfl,ea,l⟩:=h.tup i; exact ⟨.tup ea,by decide⟩
 ·obtain ⟨a,vs,rfl,ea,l⟩:=h.dk i; exact ⟨.dK ea,by decide⟩
 ·obtain ⟨a,vs,rfl,ea,l⟩:=h.dt i; exact ⟨.dT ea,by decide⟩
def Abr (n:String) (p:PV) (P:PV->Prop):Prop:=∃ T,tyP p = some T/\P (.bl (kit T n))
def Ai7 (n:String) (ua:UE):UE:=fun ρ P=>ua ρ fun p=>Abr n p P
theorem Acd {n:String} {ta:TE} {ua:UE} (ha:EB K C ω ta ua) (hn:n ∈ Agw:=by decide):EU K C ω (tCB (fun vs H Q=>∃ x n t b,vs = [x,.ty n]/\Ge K H x t/\PySem.W.kitOne K t (.type n) = some b/\Q (.bl b) H) (Gu ta (Gu (tC (.ty n)) Ot))) (Ai7 n ua) :=
 fun B G0 H0 own G σ H ρ P Q S hu k=>ha B G0 H0 own G σ H ρ _ _ S hu fun v p G1 H1 w1 r1 ⟨T,e,h⟩=>by
  obtain ⟨ty,hT⟩:=Alm w1.i r1 e
  exact ⟨v,n,_,_,rfl,ty,Qk (AgJ T hT n hn),k _ _ G1 H1 w1 (.bl _) h⟩
end
section
variable {K:PySem.W.Frag} {C:Addr} {ω:Om}
def vP:V->PV
 | .int i=>.int i
 | .str x=>.str x
 | .bl b=>.bl b
 | _=>.non
def scV:V->Bool
 | .int _=>true
 | .str _=>true
 | .bl _=>true
 | .non=>true
 | _=>false
theorem Ajx {G:Hp} {v w:V} (hs:scV w = true) (h:Rep K C G v (vP w)):v = w:=by
 cases w <;> first | (cases hs; done) | (cases h; rfl)
theorem Ail {G:Hp} {w:V} (hs:scV w = true):Rep K C G w (vP w):=by
 cases w <;> first | (cases hs; done) | constructor
theorem Ado {G:Hp} {vs ws:List V} (hs:∀ w ∈ ws,scV w = true) (h:Reps K C G vs (ws.map vP)):vs = ws:=by
 refine Na (by rw [h.1,List.length_map]) fun i x y hx hy=>?_
 exact Ajx (hs y (List.mem_of_getElem? hy)) (h.2 i x (vP y) hx (by rw [List.getElem?_map,hy]; rfl))
theorem AcA {G:Hp} {ws:List V} (hs:∀ w ∈ ws,scV w = true):Reps K C G ws (ws.map vP) :=
 ⟨by rw [List.length_map],fun i v p h1 h2=>by
  rw [List.getElem?_map,h1] at h2
  cases h2
  exact Ail (hs v (List.mem_of_getElem? h1))⟩
theorem Us {G:Hp} {v:V} {ws:List V} (hs:∀ w ∈ ws,scV w = true) (h:Rep K C G v (.tup (ws.map vP))):∃ p,v = .ref p/\G p = some (.tup ws):=by
 cases h with
 | tup e l q=>rw [Ado hs ⟨l,q⟩] at e; exact ⟨_,rfl,e⟩
theorem Sc {G:Hp} {p:Addr} {ws:List V} (hs:∀ w ∈ ws,scV w = true) (e:G p = some (.tup ws)):Rep K C G (.ref p) (.tup (ws.map vP)):=Rep.ofT e (AcA hs)
def sgW (s:Sg):List V:=[.int s.1,.str s.2.1,.int s.2.2]
def prW (m:Int × Int):List V:=[.int m.1,.int m.2]
def jnW (j:Jn):List V:=[.int j.1,.int j.2.1,.int j.2.2]
def sgP (s:Sg):PV:=.tup [.int s.1,.str s.2.1,.int s.2.2]
def prP (m:Int × Int):PV:=.tup [.int m.1,.int m.2]
def jnP (j:Jn):PV:=.tup [.int j.1,.int j.2.1,.int j.2.2]
theorem AcX (s:Sg):∀ w ∈ sgW s,scV w = true:=by intro w hw; simp [sgW] at hw; rcases hw with rfl | rfl | rfl <;> rfl
theorem Yj (s:Int × Int):∀ w ∈ prW s,scV w = true:=by intro w hw; simp [prW] at hw; rcases hw with rfl | rfl <;> rfl
theorem AcL (s:Jn):∀ w ∈ jnW s,scV w = true:=by intro w hw; simp [jnW] at hw; rcases hw with rfl | rfl | rfl <;> rfl
theorem Yy {G:Hp} {v:V} {s:Sg}:Rep K C G v (sgP s) ↔ TripAt G v s:=⟨fun h=>let ⟨p,e,hp⟩:=Us (AcX s) h; ⟨p,e,hp⟩,fun ⟨p,e,hp⟩=>by subst e; exact Sc (AcX s) hp⟩
theorem Zi {G:Hp} {v:V} {s:Int × Int}:Rep K C G v (prP s) ↔ PairAt G v s:=⟨fun h=>let ⟨p,e,hp⟩:=Us (Yj s) h; ⟨p,e,hp⟩,fun ⟨p,e,hp⟩=>by subst e; exact Sc (Yj s) hp⟩
theorem Aa1 {G:Hp} {v:V} {s:Jn}:Rep K C G v (jnP s) ↔ TrjAt G v s:=⟨fun h=>let ⟨p,e,hp⟩:=Us (AcL s) h; ⟨p,e,hp⟩,fun ⟨p,e,hp⟩=>by subst e; exact Sc (AcL s) hp⟩
theorem Lm {α:Type} {R:Hp->V->α->Prop} {f:α->PV} (hf:∀ {G:Hp} {v:V} {s:α},Rep K C G v (f s) ↔ R G v s) {G:Hp} {vs:List V} {S:List α}:Reps K C G vs (S.map f) ↔ LAt R G vs S:=by
 constructor
 ·intro h
  refine ⟨by rw [h.1,List.length_map],fun i x y hx hy=>hf.mp (h.2 i x (f y) hx (by rw [List.getElem?_map,hy]; rfl))⟩
 ·intro h
  refine ⟨by rw [h.1,List.length_map],fun i x y hx hy=>?_⟩
  rw [List.getElem?_map] at hy
  obtain ⟨s,hs,e⟩:=Option.map_eq_some_iff.mp hy
  rw [<- e]
  exact hf.mpr (h.2 i x s hx hs)
def Ow (G H H':Hp):Hp:=fun a=>match H' a with
 | some (.tup xs)=>some (.tup xs)
 | o=>match H a with
  | none=>o
  | some _=>G a
theorem Ja {G H H':Hp} {a:Addr} {xs:List V} (e:H' a = some (.tup xs)):Ow G H H' a = some (.tup xs):=by unfold Ow; rw [e]
theorem Dt {G H H':Hp} {a:Addr} {o:HO} (n:H a = none) (e:H' a = some o):Ow G H H' a = some o:=by
 unfold Ow; rw [e,n]; cases o <;> rfl
theorem Td {G H H':Hp} {a:Addr} {o:HO} (h:H a = some o) (s:Same H H') (t:Ti o):Ow G H H' a = G a:=by
 unfold Ow; rw [s _ _ h,h]
 cases o <;> first | rfl | exact absurd rfl (t _)
theorem Np {G H H':Hp} (i:Same G H) (s:Same H H'):Grow G H (Ow G H H') H':=by
 refine ⟨fun a o h=>?_,s,fun a o h=>?_,fun a o h t hg=>by rw [Td h s t]; exact hg⟩
 ·have h1:=i _ _ h
  by_cases t:Ti o
  ·rw [Td h1 s t]; exact h
  ·have:∃ xs,o = .tup xs:=Classical.byContradiction fun z=>t fun xs w=>z ⟨xs,w⟩
   obtain ⟨xs,rfl⟩:=this
   exact Ja (s _ _ h1)
 ·cases e:H' a with
  | none =>
   unfold Ow at h; rw [e] at h
   cases e2:H a with
   | none=>rw [e2] at h; cases h
   | some u=>rw [s _ _ e2] at e; cases e
  | some u =>
   by_cases t:Ti u
   ·cases e2:H a with
    | none=>rw [Dt e2 e] at h; exact h
    | some w =>
     have:=s _ _ e2
     rw [e] at this; cases this
     rw [Td e2 s t] at h
     rw [i _ _ h] at e2; cases e2; rfl
   ·have:∃ xs,u = .tup xs:=Classical.byContradiction fun z=>t fun xs w=>z ⟨xs,w⟩
    obtain ⟨xs,rfl⟩:=this
    rw [Ja e] at h; exact h
theorem AkT {G H:Hp} {l m n:Bool} {vs:List V} {ps:List PV} (h:ArgsOk K C G H [l,m,n] vs ps):∃ v w x p q r,vs = [v,w,x]/\ps = [p,q,r]/\RepB K C G H v p/\RepB K C G H w q/\RepB K C G H x r:=by
 match vs,ps,l,h with
 | v :: vs,p :: ps,true,h=>obtain ⟨w,x,q,r,rfl,rfl,h1,h2⟩:=Ub h.2; exact ⟨v,w,x,p,q,r,rfl,rfl,.inl h.1,h1,h2⟩
 | v :: vs,p :: ps,false,h=>obtain ⟨w,x,q,r,rfl,rfl,h1,h2⟩:=Ub h.2; exact ⟨v,w,x,p,q,r,rfl,rfl,h.1,h1,h2⟩
 | [],_,true,h=>cases h
 | [],_,false,h=>cases h
 | _ :: _,[],true,h=>cases h
 | _ :: _,[],false,h=>cases h
def bMk (P:PV->Prop) (ps:List PV):Prop:=∃ S M J,ps = [.lst (S.map sgP),.lst (M.map prP),.lst (J.map jnP)]/\(∀ s ∈ S,Xj s)/\(∀ m ∈ M,0 <= m.1/\0 <= m.2)/\(S.map (·.1) ++ ends M).Nodup/\Yr (kK S ++ kM M) J/\S.length + 2 * M.length <= 400/\P (.bk S M J)
def uMk (u:UA):UE:=fun ρ P=>u ρ fun ps=>bMk P ps
theorem AkG {E:XK} {t:TA} {u:UA} (ha:AU K C ω [false,false,false] t u):EU K C ω (AfD C (AaS C) [] E t) (uMk u) :=
 fun B G0 H0 own G σ H ρ P Q St hu k=>ha B G0 H0 own G σ H ρ _ _ St hu fun vs ps G1 H1 w1 ok ⟨S,M,J,e,so,mo,nd,jo,hl,h⟩=>by
  obtain ⟨v,w,y,p,q,r,rfl,e2,r1,r2,r3⟩:=AkT ok
  rw [e] at e2; cases e2
  obtain ⟨a1,xs,rfl,ea1,l1⟩:=r1.lst w1.i
  obtain ⟨a2,ys,rfl,ea2,l2⟩:=r2.lst w1.i
  obtain ⟨a3,zs,rfl,ea3,l3⟩:=r3.lst w1.i
  intro x dx hx hdx ndx
  have sB:Same H1 (upd (upd H1 dx (.own x)) x (.ins C dx [])):=fun q' o e=>by rw [Bg (Bm e hx),Bg (Bm e hdx)]; exact e
  have sG:=w1.i.trans sB
  refine ⟨x,dx,a1,a2,a3,xs,ys,zs,S,M,J,rfl,Bl,sB _ _ ea1,sB _ _ ea2,sB _ _ ea3,((Lm Yy).mp l1).tripS sG,((Lm Zi).mp l2).pairS sG,((Lm Aa1).mp l3).trjS sG,so,mo,nd,jo,hl,fun H2 kvs dx' dk dr dm dp dw kp fk fr fm fp fw e1 e2 e3 e4 e5 e6 lkv=>⟨rfl,?_⟩⟩
  have s2:Same H1 H2:=fun q' o e=>kp q' o (sB q' o e) (Bm e hx)
  have g:=Np w1.i s2
  refine k _ _ _ H2 (w1.trans g) (.bk (kvs:=kvs) ⟨dx',dk,dr,dm,dp,dw,Dt hx e1,Dt (sB.free fk) e2,Dt (sB.free fr) e3,Dt (sB.free fm) e4,Dt (sB.free fp) e5,Dt (sB.free fw) e6⟩ ?_) h
  exact lkv.mono fun _ _ ⟨z1,p,z2,z3⟩=>⟨z1,p,z2,Ja z3⟩
def AlY:V->Str
 | .str x=>x
 | _=>"plain"
def Ajh:V->Int
 | .int i=>i
 | _=>0
def Zg (S:List Sg) (M:List (Int × Int)) (n:Int):Str:=AlY ((Ci (kK S ++ kM M) (Sum.inl n)).getD (.str "plain"))
def Bz (S:List Sg) (n:Int):Int:=Ajh ((Ci (kR S) (Sum.inl n)).getD (.int 0))
def Xx (J:List Jn) (n:Int):PV:=match Ct J n with
 | some m=>.tup [.int m.1,.int m.2]
 | none=>.non
theorem Ahw {κ:Type} [DecidableEq κ] {kvs:List (κ × V)} {k:κ} {v:V} (h:Ci kvs k = some v):∃ x,(x,v) ∈ kvs:=by
 unfold Ci at h
 obtain ⟨kv,h1,h2⟩:=Option.map_eq_some_iff.mp h
 exact ⟨kv.1,by rw [<- h2]; exact List.mem_of_find?_eq_some h1⟩
theorem AcE (S:List Sg) (n:Int):(Ci (kR S) (Sum.inl n)).getD (.int 0) = .int (Bz S n):=by
 unfold Bz
 cases e:Ci (kR S) (Sum.inl n) with
 | none=>rfl
 | some v =>
  obtain ⟨x,hx⟩:=Ahw e
  obtain ⟨s,_,e2⟩:=List.mem_map.mp hx; cases e2; rfl
theorem AiD {G:Hp} {kvs:List (Key × V)} {J:List Jn} (l:LAt KvAt G kvs J) (n:Int):Rep K C G ((Ci kvs (Sum.inl n)).getD .non) (Xx J n):=by
 unfold Xx
 rcases Vi l n with ⟨h1,h2⟩ | ⟨m,p,h1,h2,h3⟩
 ·rw [h1,h2]; exact .non
 ·rw [h1,h2]; exact Sc (Yj m) h3
def bBk (p:PV) (R:List Sg->List (Int × Int)->List Jn->Prop):Prop:=∃ S M J,p = .bk S M J/\R S M J
def uM1 (f:List Sg->List (Int × Int)->List Jn->Int->PV) (ua ub:UE):UE:=fun ρ P=>ua ρ fun p=>bBk p fun S M J=>ub ρ fun q=>bU (fun n=>f S M J n) q P
theorem RepB.bk {G H:Hp} {v:V} {S:List Sg} {M:List (Int × Int)} {J:List Jn} (h:RepB K C G H v (.bk S M J)):∃ b kvs,v = .ref b/\BookAt C G b (kK S ++ kM M) (kR S) (kB M) kvs (kW J)/\LAt KvAt G kvs J:=by
 rcases h with h | ⟨a,_,h⟩
 ·cases h with
  | bk h l=>exact ⟨_,_,rfl,h,l⟩
 ·exact h.elim
theorem AfT {nm:Str} {E:XK} {sp:Sp} {f:List Sg->List (Int × Int)->List Jn->Int->PV} {ta tb:TE} {ua ub:UE} (hm:∀ {dk dr dm dp dw:Addr},(bkF dk dr dm dp dw).lookup nm = none)
  (hs:∀ G H b S M J kvs n Q,Same G H->BookAt C G b (kK S ++ kM M) (kR S) (kB M) kvs (kW J)->LAt KvAt G kvs J->(∀ v,Rep K C G v (f S M J n)->Q v H)->sp [.ref b,.int n] H Q E)
  (ha:EB K C ω ta ua) (hb:EB K C ω tb ub):EU K C ω (Uw C nm sp [] E ta (Gu tb Ot)) (uM1 f ua ub) :=
 fun B G0 H0 own G σ H ρ P Q St hu k=>ha B G0 H0 own G σ H ρ _ _ St hu fun v p G1 H1 w1 r1 ⟨S,M,J,e,h1⟩=>by
  subst e
  obtain ⟨b,kvs,rfl,bk,l⟩:=r1.bk
  refine Vc (bk.mono fun _ _ e _=>w1.i _ _ e) hm (hb B G0 H0 own G1 σ H1 ρ _ _ (St.grow w1) h1 fun w q G2 H2 w2 r2 ⟨n,e,h⟩=>?_)
  subst e
  rw [r2.int]
  exact hs G2 H2 b S M J kvs n Q w2.i (bk.mono fun _ _ e _=>w2.g _ _ e) (l.kvS w2.g) fun v rv=>k v _ G2 H2 (w1.trans w2) rv h
theorem Ahg {E:XK} {ta tb:TE} {ua ub:UE} (ha:EB K C ω ta ua) (hb:EB K C ω tb ub):EU K C ω (Uw C "rank" (Vv C) [] E ta (Gu tb Ot)) (uM1 (fun S _ _ n=>.int (Bz S n)) ua ub) :=
 AfT Uh (fun G H b S M J kvs n Q i bk l k=>⟨b,n,_,_,_,_,_,rfl,bk.mono fun _ _ e _=>i _ _ e,by rw [AcE]; exact k _ (.int _)⟩) ha hb
theorem Xy {E:XK} {ta tb:TE} {ua ub:UE} (ha:EB K C ω ta ua) (hb:EB K C ω tb ub):EU K C ω (Uw C "parts" (Aab C) [] E ta (Gu tb Ot)) (uM1 (fun _ _ J n=>Xx J n) ua ub) :=
 AfT Wu (fun G H b S M J kvs n Q i bk l k=>⟨b,n,_,_,_,_,_,rfl,bk.mono fun _ _ e _=>i _ _ e,k _ (AiD l n)⟩) ha hb
end
section
variable {ρ:Bh} {P:PV->Prop} {B:Bool->Prop} {R:Bh->Prop} {d:Jc} {ua ub uc:UE} {ta tb:UT} {u w:US} {x y:PV}
theorem AfK (q:u { d with nx:=w d } ρ):AeD u w d ρ:=q
theorem AdA (q:d.nx ρ):Af8 d ρ:=q
theorem AaZ {i:Nat} {s:Sl} (h:ρ[i]? = some s) (q:u d (ρ.set i (Qo s))):Ye i u d ρ:=by unfold Ye Jz; rw [h]; exact q
theorem AfA (q:ua ρ d.rt):Aeh ua d ρ:=q
theorem Acc {i:Nat} (h:ρ[i]? = some (.ow x)) (q:d.rt x):Af3 i d ρ:=⟨x,h,q⟩
theorem AeI (q:ta ρ fun b=>if b = true then u d ρ else w d ρ):Aie ta u w d ρ:=q
theorem Agy {i:Nat} (q:ua ρ fun p=>d.nx (ρ.set i (.sh p))):Aib i ua d ρ:=q
theorem AdF {i:Nat} (q:ua ρ fun p=>d.nx (ρ.set i (.ow p))):AgE i ua d ρ:=q
theorem Agi {ug:PV->Bh->(Bh->Prop)->Prop} (q:ua ρ fun p=>ug p ρ d.nx):AiL ua ug d ρ:=q
theorem AaX {i:Nat} (q:R (ρ.set i (.sh x))):AdW i x ρ R:=q
theorem Ada {n:Nat} {ps:List PV} {us:List PV->Bh->(Bh->Prop)->Prop} (hl:ps.length = n) (q:us ps ρ R):Xm n us (.tup ps) ρ R:=⟨ps,rfl,hl,q⟩
theorem AaJ {r:List PV} {ug:PV->Bh->(Bh->Prop)->Prop} {us:List PV->Bh->(Bh->Prop)->Prop} (q:ug x ρ fun ρ'=>us r ρ' R):Aa0 ug us (x :: r) ρ R:=⟨x,r,rfl,q⟩
theorem Adi (q:R ρ):AdT [] ρ R:=⟨rfl,q⟩
theorem Abc {us:List PV->Bh->(Bh->Prop)->Prop} {s:Sg} (q:us [.int s.1,.str s.2.1,.int s.2.2] ρ R):Xm 3 us (sgP s) ρ R:=⟨_,rfl,rfl,q⟩
theorem Agu {us:List PV->Bh->(Bh->Prop)->Prop} {s:Jn} (q:us [.int s.1,.int s.2.1,.int s.2.2] ρ R):Xm 3 us (jnP s) ρ R:=⟨_,rfl,rfl,q⟩
theorem AfI {i:Nat} {s:Sl} (h1:ρ[i]? = some s) (h2:s.val = some x) (q:P x):Aif i ρ P:=⟨s,x,h1,h2,q⟩
theorem Adx {i:Nat} (h1:ρ[i]? = some (.sh x)) (q:P x):Aft i ρ P:=⟨x,h1,q⟩
theorem p_c (q:P x):uC x ρ P:=q
theorem Aj3 {g:Int->Int->PV} (q:ua ρ fun p=>ub ρ fun q=>bI0 g p q P):uI0 g ua ub ρ P:=q
theorem AhU {g:Int->Int->PV} {i j:Int} (q:P (g i j)):bI0 g (.int i) (.int j) P:=⟨i,j,rfl,rfl,q⟩
theorem p_i {c:Int->Int->Prop} {g:Int->Int->PV} (q:ua ρ fun p=>ub ρ fun q=>bI c g p q P):uI c g ua ub ρ P:=q
theorem Ago {g:Int->Int->PV} {i j:Int} (q:P (g i j)) (hc:0 < j):bI (fun _ j=>0 < j) g (.int i) (.int j) P:=⟨i,j,rfl,rfl,hc,q⟩
theorem Af0 {g:Int->Int->PV} {i j:Int} (q:P (g i j)) (hc:Op i j):bI Op g (.int i) (.int j) P:=⟨i,j,rfl,rfl,hc,q⟩
theorem AfL {g:Int->Int->PV} {i j:Int} (q:P (g i j)) (hc:Abq i j):bI Abq g (.int i) (.int j) P:=⟨i,j,rfl,rfl,hc,q⟩
theorem b_u {g:Int->PV} {i:Int} (q:P (g i)):bU g (.int i) P:=⟨i,rfl,q⟩
theorem Agh {neg:Bool} (q:ua ρ fun p=>ub ρ fun q=>Wf neg p q P):Aey neg ua ub ρ P:=q
theorem Ags {i j:Int} (q:P (.bl (decide (i = j)))):Wf false (.int i) (.int j) P:=.inl ⟨i,j,rfl,rfl,q⟩
theorem Agl {i j:Int} (q:P (.bl (!decide (i = j)))):Wf true (.int i) (.int j) P:=.inl ⟨i,j,rfl,rfl,q⟩
theorem Agg {i j:Str} (q:P (.bl (decide (i = j)))):Wf false (.str i) (.str j) P:=.inr ⟨i,j,rfl,rfl,q⟩
theorem Agz {i j:Str} (q:P (.bl (!decide (i = j)))):Wf true (.str i) (.str j) P:=.inr ⟨i,j,rfl,rfl,q⟩
theorem AdE (q:ua ρ fun p=>P (.bl (!isN p))):AiK true ua ρ P:=q
theorem p_b (q:ua ρ fun p=>bB p B):uB ua ρ B:=q
theorem b_b {b:Bool} (q:B b):bB (.bl b) B:=⟨b,rfl,q⟩
theorem Aga (q:ta ρ fun b=>if b = true then tb ρ B else B false):AiM ta tb ρ B:=q
theorem Ah6 (q:ta ρ fun b=>if b = true then B true else tb ρ B):uOr ta tb ρ B:=q
theorem Af5 (q:ta ρ fun b=>B (!b)):Aj1 ta ρ B:=q
theorem AfJ {L:List PV->Prop} (q:L []):Ajf ρ L:=q
theorem Adz {L:List PV->Prop} {ur:UA} (q:ua ρ fun p=>ur ρ fun ps=>L (p :: ps)):AbP ua ur ρ L:=q
theorem Agk {ur:UA} (q:ur ρ fun ps=>P (.lst ps)):Ah2 ur ρ P:=q
theorem Afv {ur:UA} (q:ur ρ fun ps=>P (.tup ps)):Aic ur ρ P:=q
theorem AfR (q:ua ρ fun p=>ub ρ fun q=>Zn p q P):Ajb ua ub ρ P:=q
theorem Age {ps:List PV} {i:Int} (h:atI ps i = some x) (q:P x):Zn (.lst ps) (.int i) P:=⟨i,ps,x,rfl,.inl rfl,h,q⟩
theorem Afp (q:ua ρ fun p=>ub ρ fun q=>On p q P):AjY ua ub ρ P:=q
theorem Adq {s:Sg} (q:P (.int s.1)):On (sgP s) (.int 0) P:=⟨0,_,_,rfl,rfl,rfl,q⟩
theorem Adv {s:Sg} (q:P (.str s.2.1)):On (sgP s) (.int 1) P:=⟨1,_,_,rfl,rfl,rfl,q⟩
theorem Ab8 {s:Int × Int} (q:P (.int s.1)):On (prP s) (.int 0) P:=⟨0,_,_,rfl,rfl,rfl,q⟩
theorem AdI {s:Int × Int} (q:P (.int s.2)):On (prP s) (.int 1) P:=⟨1,_,_,rfl,rfl,rfl,q⟩
theorem AcM {s:Jn} (q:P (.int s.1)):On (jnP s) (.int 0) P:=⟨0,_,_,rfl,rfl,rfl,q⟩
theorem Aca {s:Jn} (q:P (.int s.2.1)):On (jnP s) (.int 1) P:=⟨1,_,_,rfl,rfl,rfl,q⟩
theorem Ab1 {a:PV} {r:List PV} (q:P a):On (.tup (a :: r)) (.int 0) P:=⟨0,_,_,rfl,rfl,Dh (j:=0) rfl,q⟩
theorem AcV {a b:PV} {r:List PV} (q:P b):On (.tup (a :: b :: r)) (.int 1) P:=⟨1,_,_,rfl,rfl,Dh (j:=1) rfl,q⟩
theorem Ac3 {a b c:PV} {r:List PV} (q:P c):On (.tup (a :: b :: c :: r)) (.int 2) P:=⟨2,_,_,rfl,rfl,Dh (j:=2) rfl,q⟩
theorem Xt {O:Option Int->Prop} (q:O none):AaR ρ O:=q
theorem Acj {O:Option Int->Prop} (q:ua ρ fun p=>Abz p O):Agp ua ρ O:=q
theorem AcW {O:Option Int->Prop} {i:Int} (q:O (some i)):Abz (.int i) O:=⟨i,rfl,q⟩
theorem Afr {ul uh:UO} (q:ua ρ fun p=>ul ρ fun lo=>uh ρ fun hi=>AeQ p lo hi P):Ajj ua ul uh ρ P:=q
theorem Afq {ps:List PV} {lo hi:Option Int} (q:P (.lst (Ft ps lo hi))):AeQ (.lst ps) lo hi P:=⟨ps,.inl rfl,q⟩
theorem Agb (q:ua ρ fun p=>ub ρ fun q=>Aem p q P):AjA ua ub ρ P:=q
theorem AfX {xs ys:List PV} (q:P (.lst (xs ++ ys))) (hl:xs.length + ys.length <= 100000):Aem (.lst xs) (.lst ys) P:=⟨xs,ys,rfl,rfl,hl,q⟩
theorem Ai6 {ur:List PV->(PV->Prop)->Prop} {us:UA} (q:us ρ fun ps=>ur ps P):uCB ur us ρ P:=q
theorem Ab5 {xs:List PV} (q:P (.int (xs.length:Nat))):AfS [.lst xs] P:=⟨_,.inr (.inl ⟨xs,rfl,rfl⟩),q⟩
theorem Aa6 {xs:List PV} (q:P (.lst xs)):AcD [.lst xs] P:=⟨xs,.inl rfl,q⟩
theorem Af1 {i:Nat} {us:UA} {ps:List PV} (h:ρ[i]? = some (.ow (.lst ps))) (q:us ρ fun qs=>Aew i ρ d.nx qs):AfM i us d ρ:=⟨⟨ps,h⟩,q⟩
theorem Agr {i:Nat} {N:Bh->Prop} {ps:List PV} (h:ρ[i]? = some (.ow (.lst ps))) (q:N (ρ.set i (.ow (.lst (ps ++ [x]))))) (hl:ps.length < 100000):Aew i ρ N [x]:=⟨x,ps,rfl,h,hl,q⟩
theorem AfF {neg:Bool} (q:ua ρ fun p=>ub ρ fun q=>AeU neg p q P):AjK neg ua ub ρ P:=q
theorem Afw {kvs:List (Key × PV)} {n:Int} (q:P (.bl (Gg kvs (.inl n)).isSome)):AeU false (.int n) (.dk kvs) P:=⟨kvs,.inl n,rfl,rfl,q⟩
theorem Ack (q:ua ρ fun p=>ub ρ fun q=>Abu p q P):Agn ua ub ρ P:=q
theorem AjC {kvs:List (Key × PV)} {n:Int} (h:Gg kvs (.inl n) = some x) (q:P x):Abu (.dk kvs) (.int n) P:=⟨kvs,.inl n,x,rfl,rfl,h,q⟩
theorem AaK {i:Nat} {s:Sl} {kvs:List (Key × PV)} (h1:ρ[i]? = some s) (h2:s.val = some (.dk kvs)) (q:ub ρ fun q=>uc ρ fun z=>Ya kvs q z P):Ac8 i ub uc ρ P:=⟨s,kvs,h1,h2,q⟩
theorem Aa9 {kvs:List (Key × PV)} {n:Int} (q:P ((Gg kvs (.inl n)).getD x)):Ya kvs (.int n) x P:=⟨.inl n,rfl,q⟩
theorem Ab7 {i:Nat} {kvs:List (Key × PV)} (h:ρ[i]? = some (.ow (.dk kvs))) (q:ub ρ fun p=>ua ρ fun q=>Abt i ρ d.nx p q):AfB i ua ub d ρ:=⟨⟨kvs,h⟩,q⟩
theorem AcC {i:Nat} {kvs:List (Key × PV)} {n:Int} {N:Bh->Prop} (h:ρ[i]? = some (.ow (.dk kvs))) (q:N (ρ.set i (.ow (.dk (Ta kvs (.inl n) x))))) (hl:kvs.length < 100000):Abt i ρ N x (.int n):=⟨kvs,.inl n,h,rfl,hl,q⟩
theorem Agt {ui:UI} {ug:PV->Bh->(Bh->Prop)->Prop} (q:ui ρ fun ps=>Tl ps ug u d ρ):AeS ui ug u d ρ:=q
theorem AfN {L:List PV->Prop} (q:ua ρ fun p=>bL p L):uiL ua ρ L:=q
theorem b_L {L:List PV->Prop} {ps:List PV} (q:L ps):bL (.lst ps) L:=⟨ps,.inl rfl,q⟩
theorem Act {L:List PV->Prop} {i:Nat} (h:ρ[i]? = some (.bo x)) (q:bL x L):uiB i ρ L:=let ⟨ps,e,q⟩:=q; ⟨_,x,ps,h,.inl rfl,e,q⟩
theorem AcP {us:UA} {ug:PV->Bh->(Bh->Prop)->Prop} (q:us ρ fun ps=>bR1 (fun n=>AbI 0 n ug u d ρ) ps):Af2 us ug u d ρ:=q
theorem Adh {ug:PV->Bh->(Bh->Prop)->Prop} {k:Nat} {fr:List Nat} (q:ua ρ fun p=>bL p fun ps=>ps.length <= 100000/\Sk ps ug ta ue (compρ k fr ρ) P):Af6 ua ug ta ue k fr ρ P:=q
theorem AaD {us:UA} {ug:PV->Bh->(Bh->Prop)->Prop} {ue:UE} {k:Nat} {fr:List Nat} (q:us ρ fun ps=>Zt ug ta ue (compρ k fr ρ) P ps):AcG us ug ta ue k fr ρ P:=q
theorem AcU (q:B true):Af7 ρ B:=q
theorem Acu {psp:PSp} {us:UA} (q:us ρ fun ps=>psp ps P):Qz psp us ρ P:=q
theorem AfV {neg:Bool} (q:ua ρ fun p=>ub ρ fun q=>Abs neg p q P):AjW neg ua ub ρ P:=q
theorem Agd {n:String} (q:ua ρ fun p=>Abr n p P):Ai7 n ua ρ P:=q
theorem Adg {xs:List PV} (q:P (.bl true)):Abr "list" (.lst xs) P:=⟨_,rfl,q⟩
theorem AcT (q:P (.bl false)):Abr "list" .non P:=⟨_,rfl,q⟩
theorem AhM {L:Nat->Prop} {j:Int} (q:L j.toNat) (h:-(2 ^ 62) <= j/\j < 2 ^ 62):bR1 L [.int j]:=⟨j,rfl,h.1,h.2,q⟩
theorem Gw {α:Type} {f:α->PV} {l:List α} {j:Nat} {a:α} {i:Int} (h:l[j]? = some a) (e:i = (j:Int)) (q:P (f a)):Zn (.lst (l.map f)) (.int i) P:=by
 subst e
 exact ⟨_,_,_,rfl,.inl rfl,Dh (by rw [List.getElem?_map,h]; rfl),q⟩
theorem Ys {α:Type} (x:α) (r:List α):Ft (x :: r) (some 1) none = r:=by
 unfold Ft
 rw [show (some (1:Int)) = some ((1:Nat):Int) from rfl,HT.sIx_nat,HT.sIx_none]
 simp
theorem Fv {α:Type} {f:α->PV} {c:α->Bool}:∀ l:List α,(l.filterMap fun a=>if c a = true then some (f a) else none) = (l.filter c).map f
 | []=>rfl
 | a :: l=>by
  rw [List.filterMap_cons,List.filter_cons]
  by_cases h:c a = true
  ·rw [if_pos h,if_pos h,Fv l]; rfl
  ·rw [if_neg h,if_neg h,Fv l]
theorem Ake {us:UA} (q:us ρ fun ps=>bMk P ps):uMk us ρ P:=q
theorem Aj2 {f:List Sg->List (Int × Int)->List Jn->Int->PV} (q:ua ρ fun p=>bBk p fun S M J=>ub ρ fun q=>bU (fun n=>f S M J n) q P):uM1 f ua ub ρ P:=q
theorem AjZ {S:List Sg} {M:List (Int × Int)} {J:List Jn} {L:List Sg->List (Int × Int)->List Jn->Prop} (q:L S M J):bBk (.bk S M J) L:=⟨S,M,J,rfl,q⟩
theorem Zo {xs ys:List Int}:CmpL (xs.map .int) (ys.map .int):=fun _ i x y hx hy=>by
 rw [List.getElem?_map] at hx hy
 obtain ⟨a,_,rfl⟩:=Option.map_eq_some_iff.mp hx
 obtain ⟨b,_,rfl⟩:=Option.map_eq_some_iff.mp hy
 exact .flat rfl rfl
theorem Uc {xs ys:List Int} (h:xs.map PV.int = ys.map PV.int):xs = ys:=by
 induction xs generalizing ys with
 | nil=>cases ys with
  | nil=>rfl
  | cons _ _=>cases h
 | cons x xs ih=>cases ys with
  | nil=>cases h
  | cons y ys=>injection h with h1 h2; injection h1 with h1; rw [h1,ih h2]
theorem Ah7 {xs ys:List Int} (q:P (.bl (decide (xs = ys)))):Abs false (.lst (xs.map .int)) (.lst (ys.map .int)) P:=⟨_,_,rfl,rfl,Zo,fun b hb=>by
 have:b = decide (xs = ys):=Lk (by rw [hb,decide_eq_true_iff]; exact ⟨Uc,fun h=>by rw [h]⟩)
 rw [this]; exact q⟩
theorem AdU {xs ys:List Int} (q:P (.bl (!decide (xs = ys)))):Abs true (.lst (xs.map .int)) (.lst (ys.map .int)) P:=⟨_,_,rfl,rfl,Zo,fun b hb=>by
 have:b = decide (xs = ys):=Lk (by rw [hb,decide_eq_true_iff]; exact ⟨Uc,fun h=>by rw [h]⟩)
 rw [this]; exact q⟩
theorem Fu {α:Type} {S:List α} {enc:α->PV} {f:α->Option PV} {ug:PV->Bh->(Bh->Prop)->Prop} {ue:UE} {ρ':Bh} (q:P (.lst (S.filterMap f))) (h:∀ s ∈ S,∀ Z:Option PV->Prop,Z (f s)->ug (enc s) ρ' fun ρ2=>ta ρ2 fun b=>if b = true then ue ρ2 fun q=>Z (some q) else Z none):Sk (S.map enc) ug ta ue ρ' P:=by
 refine ⟨fun n rs=>rs = (S.take n).filterMap f,rfl,fun n p rs hp hr=>?_,fun rs hr=>?_⟩
 ·rw [List.getElem?_map] at hp
  obtain ⟨s,hs,rfl⟩:=Option.map_eq_some_iff.mp hp
  subst hr
  refine h s (List.mem_of_getElem? hs) (fun o=>(match o with | some q=>(S.take n).filterMap f ++ [q] | none=>(S.take n).filterMap f) = (S.take (n + 1)).filterMap f) ?_
  rw [Cn hs,List.filterMap_append]
  cases e:f s with
  | none=>simp [List.filterMap_cons,e]
  | some x=>simp [List.filterMap_cons,e]
 ·rw [List.length_map,List.take_length] at hr
  rw [hr]; exact q
end
section
variable {K:PySem.W.Frag} {C:Addr} {ω:Om} {rm:Rm}
theorem Tc {G:Hp} {vs:List V} {ns:List Int} (h:Reps K C G vs (ns.map .int)):vs = ns.map V.int:=by
 refine Na (by rw [h.1,List.length_map,List.length_map]) fun i x y hx hy=>?_
 rw [List.getElem?_map] at hy
 obtain ⟨n,hn,rfl⟩:=Option.map_eq_some_iff.mp hy
 have r:=h.2 i x (.int n) hx (by rw [List.getElem?_map,hn]; rfl)
 cases r; rfl
def Ad5 (i:Nat) (ρ:Bh) (N:Bh->Prop) (qs:List PV):Prop:=∃ (k:Nat) (q:PV) (ps:List PV),qs = [.int k,q]/\ρ[i]? = some (.ow (.lst ps))/\k <= ps.length/\ps.length < 1000/\N (ρ.set i (.ow (.lst (ps.take k ++ q :: ps.drop k))))
def Aix (i:Nat) (u:UA):US:=fun d ρ=>(∃ ps,ρ[i]? = some (.ow (.lst ps)))/\u ρ fun qs=>Ad5 i ρ d.nx qs
theorem Aej {G:Hp} {vs:List V} {ps:List PV} {v:V} {p:PV} {k:Nat} (h:Reps K C G vs ps) (r:Rep K C G v p):Reps K C G (vs.take k ++ v :: vs.drop k) (ps.take k ++ p :: ps.drop k):=by
 have e:=LAt.append (LAt.snoc (LAt.take h k) r) (LAt.drop h k)
 simpa using e
theorem AjH {i:Nat} {t:TA} {u:UA} (ha:AU K C ω [true,true] t u):SU K C ω rm (Vd (tBM K "list" Yg (Ji i) t)) (Aix i u):=fun B G0 H0 own G σ H ρ D d S F ⟨⟨ps0,e0⟩,hu⟩ =>
 Vy S e0 fun a vs0 e1 o _ _=>ha B G0 H0 own G σ H ρ _ _ S hu fun xs qs G' H' w ok ⟨k,q,ps,eq,ep,hk,hl,h⟩=>by
  have S':=S.grow w
  obtain ⟨a',vs,e1',o',h1,h2⟩:=S'.list ep
  rw [o] at o'; cases o'
  subst eq
  match xs,ok with
  | [x,y],ok =>
   have rx:Rep K C G' x (.int k):=ok.1
   have ry:Rep K C G' y q:=ok.2.1
   cases rx
   exact ⟨a,vs,k,y,rfl,rfl,by rw [h2.1]; exact hk,h1,by rw [h2.1]; exact hl,fun H2 c e2=>F.nx own G' σ H2 _ (S'.chg o e1 c (OwnA.ofL e2 (Aej h2 ry))) h⟩
  | [],ok=>cases ok
  | [_],ok=>cases ok.2
  | _ :: _ :: _ :: _,ok=>cases ok.2.2
theorem Ak4 {ρ:Bh} {d:Jc} {i:Nat} {us:UA} {ps:List PV} (h:ρ[i]? = some (.ow (.lst ps))) (q:us ρ fun qs=>Ad5 i ρ d.nx qs):Aix i us d ρ:=⟨⟨ps,h⟩,q⟩
theorem Ai4 {ρ:Bh} {i:Nat} {x:PV} {N:Bh->Prop} {ps:List PV} (h:ρ[i]? = some (.ow (.lst ps))) (q:N (ρ.set i (.ow (.lst (x :: ps))))) (hl:ps.length < 1000):Ad5 i ρ N [.int 0,x]:=⟨0,x,ps,rfl,h,Nat.zero_le _,hl,q⟩
end
def Aan:PSp:=fun ps P=>∃ ns,ps = [.scr ns]/\ns.length <= 63/\P (.bl true)
def Vq (K:PySem.W.Frag):Sp:=fun vs H Q _=>∃ (a:Addr) (ns:List Int),vs = [.ref a]/\SqL K H a (ns.map V.int)/\ns.length <= 63/\∀ H',Q (.bl true) H'
theorem Ag9 {K:PySem.W.Frag} {C:Addr}:∀ vs H Q E,Vq K vs H Q E->spOf K C [false] .sh Aan vs H Q E:=fun vs H Q E ⟨a,ns,e,hS,hl,q⟩=>by
 subst e
 refine ⟨H,[.scr ns],fun p=>p = .bl true,Same.refl _,⟨.inl (.scr hS),trivial⟩,⟨ns,rfl,hl,rfl⟩,fun G' H' v p w r hp=>?_⟩
 subst hp
 have r':Rep K C G' v (.bl true):=r
 cases r'
 exact q H'
section
variable {K:PySem.W.Frag} {C:Addr}
end
section
variable {K:PySem.W.Frag} {C:Addr} {ω:Om}
end
theorem Ag6 {C b:Addr} {H:Hp} {k r m p:List (Key × V)} {w:List (List Key × V)} {nm:Str} {P:Addr->Hp->Prop} {f:Addr} (h:BookAt C H b k r m p w) (hm:∀ {dk dr dm dp dw:Addr},(bkF dk dr dm dp dw).lookup nm = none) (q:∀ (q:Addr) (H2:Hp),H q = none->Same H H2->H2 q = some (.met f b)->P q H2) :
  ∃ a dx fs,V.ref b = V.ref a/\H a = some (.ins C dx fs)/\fs.lookup nm = none/\∀ (q:Addr) (H2:Hp),H q = none->Same H H2->H2 q = some (.met f a)->P q H2:=by
 obtain ⟨dx,dk,dr,dm,dp,dw,h1,_⟩:=h
 exact ⟨b,dx,_,rfl,h1,hm,q⟩
section
variable {K:PySem.W.Frag} {C:Addr} {ω:Om} {rm:Rm}
def Zb (ps:List PV) (p:PV) (P:PV->Prop):Prop:=∃ (U:List Sg) (M:List (Int × Int)) (J:List Jn) (ns:List Int),ps = [.lst (ns.map .int)]/\p = .bk U M J/\ns.length < 64/\∀ ns':List Int,Rl (Bz U) ns ns'->P (.lst (ns'.map .int))
def AdR (u:UA) (ub:UE):UE:=fun ρ P=>u ρ fun ps=>ub ρ fun p=>Zb ps p P
theorem Aei {m:Bool} {f:Addr} {t:TA} {u:UA} {to:TE} {ub:UE} (ha:AU K C ω [m] t u) (hb:EB K C ω to ub):EF K C ω (Ac5 K (Vv C) f t (Gu (Ace C "rank" f to) Ot)) (AdR u ub) :=
 fun B G0 H0 own G σ H ρ P Q S hu k=>ha B G0 H0 own G σ H ρ _ _ S hu fun vs ps G1 H1 w1 r1 h1=>hb B G0 H0 own G1 σ H1 ρ _ _ (S.grow w1) h1 fun v p G2 H2 w2 r2 ⟨U,M,J,ns,e1,e2,hl,h2⟩=>by
  obtain ⟨x,px,rfl,e3,r⟩:=Oc r1
  rw [e3] at e1
  cases e1
  subst e2
  obtain ⟨b,kvs,rfl,bk,l⟩:=r2.bk
  obtain ⟨a,vs,rfl,ea,la⟩:=r.lst w1.i
  have bk2:=bk.mono fun _ _ e _=>w2.i _ _ e
  refine Ag6 bk2 Uh fun q H3 hq s3 e3=>⟨a,q,b,ns,Bz U,rfl,rfl,SqL.of (by rw [<- Tc la]; exact s3 _ _ (w2.h _ _ ea)),e3,hl,fun n _=>⟨b,n,_,_,_,_,_,rfl,bk2.mono fun _ _ e _=>s3 _ _ e,by rw [AcE]; exact ⟨rfl,rfl⟩⟩,fun c H4 ns' hc s4 e4 sb=>?_⟩
  have s24:Same H2 H4:=s3.trans s4
  have hc2:H2 c = none:=s3.free hc
  exact k c _ G2 H4 ((w1.trans w2).trans (Grow.own w2.i s24)) ((w1.trans w2).h.free hc2) (w2.i.free hc2) (OwnA.ofL e4 (Ff ns')) (h2 ns' sb)
theorem Ahu {ρ:Bh} {u:UA} {ub:UE} {P:PV->Prop} (q:u ρ fun ps=>ub ρ fun p=>Zb ps p P):AdR u ub ρ P:=q
theorem Ahf {U:List Sg} {M:List (Int × Int)} {J:List Jn} {ns:List Int} {P:PV->Prop} (q:∀ ns':List Int,Rl (Bz U) ns ns'->P (.lst (ns'.map .int))) (hl:ns.length < 64):Zb [.lst (ns.map .int)] (.bk U M J) P:=⟨U,M,J,ns,rfl,rfl,hl,q⟩
def Afm (i:Nat) (ρ:Bh) (N:Bh->Prop) (qs:List PV):Prop:=∃ rs ps:List PV,qs = [.lst rs]/\ρ[i]? = some (.ow (.lst ps))/\ps.length + rs.length < 100000/\N (ρ.set i (.ow (.lst (ps ++ rs))))
def AiH (i:Nat) (u:UA):US:=fun d ρ=>(∃ ps,ρ[i]? = some (.ow (.lst ps)))/\u ρ fun qs=>Afm i ρ d.nx qs
theorem Zv {i:Nat} {m:Bool} {t:TA} {u:UA} (ha:AU K C ω [m] t u):SU K C ω rm (Vd (tBM K "list" Aad (Ji i) t)) (AiH i u):=fun B G0 H0 own G σ H ρ D d S F ⟨⟨ps0,e0⟩,hu⟩ =>
 Vy S e0 fun a vs0 e1 o _ _=>ha B G0 H0 own G σ H ρ _ _ S hu fun xs qs G' H' w ok ⟨rs,ps,eq,ep,hl,h⟩=>by
  have S':=S.grow w
  obtain ⟨a',vs,e1',o',h1,h2⟩:=S'.list ep
  rw [o] at o'; cases o'
  obtain ⟨x,px,rfl,e3,r⟩:=Oc ok
  rw [e3] at eq
  cases eq
  obtain ⟨b,ws,rfl,eb,lb⟩:=r.lst w.i
  exact ⟨a,b,vs,ws,rfl,rfl,h1,eb,by rw [h2.1,lb.1,sizeLine_eq]; omega,fun H2 c e2=>F.nx own G' σ H2 _ (S'.chg o e1 c (OwnA.ofL e2 (LAt.append h2 lb))) h⟩
theorem Alb {ρ:Bh} {d:Jc} {i:Nat} {us:UA} {ps:List PV} (h:ρ[i]? = some (.ow (.lst ps))) (q:us ρ fun qs=>Afm i ρ d.nx qs):AiH i us d ρ:=⟨⟨ps,h⟩,q⟩
theorem Ak5 {ρ:Bh} {i:Nat} {N:Bh->Prop} {ps rs:List PV} (h:ρ[i]? = some (.ow (.lst ps))) (q:N (ρ.set i (.ow (.lst (ps ++ rs))))) (hl:ps.length + rs.length < 100000):Afm i ρ N [.lst rs]:=⟨rs,ps,rfl,h,hl,q⟩
end
section
variable {K:PySem.W.Frag} {C:Addr} {ω:Om} {rm:Rm}
end
section
variable {K:PySem.W.Frag} {C:Addr} {ω:Om} {rm:Rm}
theorem Reps.pick {G:Hp} {vs:List V} {ps:List PV} (h:Reps K C G vs ps):∀ is:List Nat,Reps K C G (pick is vs) (pick is ps)
 | []=>LAt.nil
 | i :: is=>by
  have ih:=Reps.pick h is
  unfold L2.pick at ih ⊢
  rw [List.filterMap_cons,List.filterMap_cons]
  cases e:vs[i]? with
  | none =>
   have:ps[i]? = none:=by
    rw [List.getElem?_eq_none_iff] at e ⊢
    rw [<- h.1]; exact e
   rw [this]; exact ih
  | some v =>
   have hi:i < ps.length:=by rw [<- h.1]; exact (List.getElem?_eq_some_iff.mp e).1
   have e2:=List.getElem?_eq_getElem hi
   rw [e2]
   exact LAt.append (LAt.snoc LAt.nil (h.2 i v _ e e2)) ih
def Aez (p:PV) (lo hi st:Option Int) (P:PV->Prop):Prop:=∃ ps,(p = .lst ps\/∃ ns,p = .scr ns/\ps = ns.map .int)/\st ≠ some 0/\P (.lst (pick (Nh ps.length lo hi st) ps))
def Ais (ua:UE) (ul uh us:UO):UE:=fun ρ P=>ua ρ fun p=>ul ρ fun lo=>uh ρ fun hi=>us ρ fun st=>Aez p lo hi st P
theorem Akh {ρ:Bh} {ua:UE} {ul uh us:UO} {P:PV->Prop} (q:ua ρ fun p=>ul ρ fun lo=>uh ρ fun hi=>us ρ fun st=>Aez p lo hi st P):Ais ua ul uh us ρ P:=q
theorem Ajl {ns:List Int} {lo hi st:Option Int} {P:PV->Prop} (q:P (.lst ((pick (Nh ns.length lo hi st) ns).map .int))) (h:st ≠ some 0):Aez (.scr ns) lo hi st P:=⟨ns.map .int,.inr ⟨ns,rfl,rfl⟩,h,by rw [List.length_map,Aef]; exact q⟩
theorem Adj {ta:TE} {tl th ts:TO} {ua:UE} {ul uh us:UO} (ha:EB K C ω ta ua) (hl:OU K C ω tl ul) (hh:OU K C ω th uh) (hs:OU K C ω ts us):EF K C ω (Ae9 K ta tl th ts) (Ais ua ul uh us) :=
 fun B G0 H0 own G σ H ρ P Q S hu k=>ha B G0 H0 own G σ H ρ _ _ S hu fun v p G1 H1 w1 r1 h1=>hl B G0 H0 own G1 σ H1 ρ _ _ (S.grow w1) h1 fun lo G2 H2 w2 h2=>hh B G0 H0 own G2 σ H2 ρ _ _ ((S.grow w1).grow w2) h2 fun hi G3 H3 w3 h3=>hs B G0 H0 own G3 σ H3 ρ _ _ (((S.grow w1).grow w2).grow w3) h3 fun st G4 H4 w4 h4=>by
  have w:=((w1.trans w2).trans w3).trans w4
  have r:=((r1.grow w2).grow w3).grow w4
  obtain ⟨ps,e,h0,h⟩:=h4
  rcases e with e | ⟨ns,e,e4⟩
  ·subst e
   obtain ⟨a,vs,rfl,ea,l⟩:=r.lst w4.i
   exact ⟨a,vs,rfl,SqL.of ea,h0,fun b H5 hb s5 e5=>k b _ G4 H5 (w.trans (Grow.own w4.i s5)) (w.h.free hb) (w4.i.free hb) (OwnA.ofL e5 (l.1 ▸ Reps.pick l _)) h⟩
  ·subst e e4
   obtain ⟨a,rfl,ea⟩:=r.scr w4.i
   exact ⟨a,_,rfl,ea,h0,fun b H5 hb s5 e5=>k b _ G4 H5 (w.trans (Grow.own w4.i s5)) (w.h.free hb) (w4.i.free hb) (OwnA.ofL e5 (by
    have e6:=Reps.pick (Ff (K:=K) (C:=C) (G:=G4) ns) (Nh (ns.map V.int).length lo hi st)
    rwa [show (ns.map V.int).length = (ns.map PV.int).length by rw [List.length_map,List.length_map]] at e6 ⊢)) h⟩
end
section
variable {K:PySem.W.Frag} {C:Addr} {ω:Om} {rm:Rm}
def enP (ps:List PV):List PV:=ps.mapIdx fun i p=>.tup [.int (i:Int),p]
theorem Aba {ps:List PV} {k:Nat}:(enP ps)[k]? = ps[k]?.map fun p=>.tup [.int (k:Int),p]:=by unfold enP; rw [List.getElem?_mapIdx]
theorem Aa7 (ps:List PV):(enP ps).length = ps.length:=by unfold enP; rw [List.length_mapIdx]
def AfH (ua:UE) (ug:PV->Bh->(Bh->Prop)->Prop) (ub:US):US:=fun d ρ=>ua ρ fun p=>bL p fun ps=>Tl (enP ps) ug ub d ρ
theorem Ahj {top:Nat} {ta:TE} {ua:UE} {g:TG} {ug:PV->Bh->(Bh->Prop)->Prop} {tb:TS} {ub:US} (ha:EU K C ω ta ua) (hg:GU K C ω top g ug) (hb:SU K C ω rm tb ub):SU K C ω rm (Qf (AfC K ta) g tb) (AfH ua ug ub) :=
 fun B G0 H0 own G σ H ρ D d S F hu=>ha B G0 H0 own G σ H ρ _ _ S hu fun v p G1 H1 w1 r1 ⟨ps,e,I,i0,ist,iend⟩=>by
  have S1:=S.grow w1
  obtain ⟨a,vs,rfl,sq,rp⟩:∃ a vs,v = .ref a/\SqL K G1 a vs/\Reps K C G1 vs ps:=by
   rcases e with e | ⟨ns,e,e2⟩
   ·subst e
    cases r1 with
    | lst e l q=>exact ⟨_,_,rfl,SqL.of e,l,q⟩
   ·subst e e2
    cases r1 with
    | scr e=>exact ⟨_,_,rfl,e,Ff ns⟩
  refine ⟨a,rfl,⟨vs,w1.i.seq sq⟩,Afh (xs:=vs) (fun k σ' H'=>∃ own' G' ρ',Sat K C ω G1 G0 H0 own' G' σ' H' ρ'/\I k ρ') ⟨own,G1,ρ,S1.base (Same.refl _),i0⟩ (fun k σ' H' _ ⟨own',G',ρ',S',_⟩=>(S'.kb.trans S'.gr.i).seq sq) (fun k x t σ' H' hx ht ⟨own',G',ρ',S',hi⟩=>?_) fun σ' H' ⟨own',G',ρ',S',hi⟩=>?_⟩
  ·obtain ⟨q,hq,rq⟩:=rp.get hx
   have w2:Grow G' H' (upd G' t (.tup [.int (k:Int),x])) (upd H' t (.tup [.int (k:Int),x])):=Grow.put S'.gr.i ht (Same.new ht) Bl
   have S2:=S'.grow w2
   have rt:Rep K C (upd G' t (.tup [.int (k:Int),x])) (.ref t) (.tup [.int (k:Int),q]):=Rep.ofT Bl (LAt.snoc (LAt.snoc LAt.nil (.int _)) ((rq.mono S'.kb).mono w2.g))
   exact hg G1 G0 H0 own' _ σ' _ ρ' (.ref t) _ _ _ S2 rt (ist k _ ρ' (by rw [Aba,hq]; rfl) hi) fun own2 σ2 ρ2 S3 _ h2=>hb G1 G0 H0 own2 _ σ2 _ ρ2 _ _ S3 (Jy F S1.kb fun own3 G3 σ3 H3 ρ3 S4 h3=>⟨own3,G3,ρ3,S4,h3⟩) h2
  ·rw [rp.1,<- Aa7] at hi
   exact F.nx own' G' σ' H' ρ' (S'.base (S1.kb.trans S'.kb)) (iend ρ' hi)
theorem AjV {ρ:Bh} {d:Jc} {ua:UE} {ug:PV->Bh->(Bh->Prop)->Prop} {ub:US} (q:ua ρ fun p=>bL p fun ps=>Tl (enP ps) ug ub d ρ):AfH ua ug ub d ρ:=q
end
section
variable {K:PySem.W.Frag} {C:Addr} {ω:Om}
end
theorem AgH {u w:US} {d:Jc} {ρ:Bh} (N:Bh->Prop) (h1:∀ ρ',N ρ'->w d ρ') (h2:u { d with nx:=fun ρ'=>N ρ'\/w d ρ' } ρ):AeD u w d ρ:=by
 have e:(fun ρ'=>N ρ'\/w d ρ') = w d:=funext fun ρ'=>propext ⟨fun z=>z.elim (h1 ρ') id,.inr⟩
 rw [e] at h2
 exact h2
section
variable {K:PySem.W.Frag} {C:Addr} {ω:Om} {rm:Rm}
theorem Afc {G:Hp} {vs:List V} {ps:List PV} (h:Reps K C G vs ps):Reps K C G vs.reverse ps.reverse:=by
 refine ⟨by rw [List.length_reverse,List.length_reverse,h.1],fun i v p h1 h2=>?_⟩
 have hi:i < vs.length:=by simpa using (List.getElem?_eq_some_iff.mp h1).1
 have hj:i < ps.length:=by simpa using (List.getElem?_eq_some_iff.mp h2).1
 rw [List.getElem?_reverse hi] at h1
 rw [List.getElem?_reverse hj] at h2
 exact h.2 _ v p h1 (by rw [h.1]; exact h2)
def Afi (neg:Bool) (p q:PV) (P:PV->Prop):Prop:=∃ i j,p = .bl i/\q = .bl j/\P (.bl (if neg then !decide (i = j) else decide (i = j)))
def AiO (neg:Bool) (ua ub:UE):UE:=fun ρ P=>ua ρ fun p=>ub ρ fun q=>Afi neg p q P
theorem AjM {ta tb:TE} {ua ub:UE} (ha:EB K C ω ta ua) (hb:EB K C ω tb ub):EU K C ω (tOp rNe ta tb) (AiO true ua ub) :=
 fun B G0 H0 own G σ H ρ P Q S hu k=>two ha hb S hu fun v w p q G' H' gr r1 r2 ⟨i,j,e1,e2,h⟩=>by
  subst e1 e2
  rw [r1.bl,r2.bl]
  refine ⟨rfl,k _ _ G' H' gr ?_ h⟩
  rw [Xz,Bool.beq_eq_decide_eq]; exact .bl _
theorem Ak7 {neg:Bool} {ρ:Bh} {ua ub:UE} {P:PV->Prop} (q:ua ρ fun p=>ub ρ fun q=>Afi neg p q P):AiO neg ua ub ρ P:=q
theorem Akl {i j:Bool} {P:PV->Prop} (q:P (.bl (!decide (i = j)))):Afi true (.bl i) (.bl j) P:=⟨i,j,rfl,rfl,q⟩
end
section
variable {K:PySem.W.Frag} {C:Addr} {ω:Om} {rm:Rm}
def zpP (ps qs:List PV):List PV:=List.zipWith (fun p q=>PV.tup [p,q]) ps qs
theorem AhF {ps qs:List PV} {k:Nat} {p q:PV} (h1:ps[k]? = some p) (h2:qs[k]? = some q):(zpP ps qs)[k]? = some (.tup [p,q]):=by
 unfold zpP; rw [List.getElem?_zipWith,h1,h2]
theorem AgP (ps qs:List PV):(zpP ps qs).length = min ps.length qs.length:=by unfold zpP; exact List.length_zipWith
theorem Ahc {α β:Type} (f:α->PV) (g:β->PV) (xs:List α) (ys:List β):zpP (xs.map f) (ys.map g) = (xs.zip ys).map fun z=>PV.tup [f z.1,g z.2]:=by
 unfold zpP
 rw [List.zipWith_map,List.zip,List.map_zipWith]
def bLL (p q:PV) (R:List PV->List PV->Prop):Prop:=∃ ps qs,p = .lst ps/\q = .lst qs/\R ps qs
theorem AlL {ps qs:List PV} {R:List PV->List PV->Prop} (h:R ps qs):bLL (.lst ps) (.lst qs) R:=⟨ps,qs,rfl,rfl,h⟩
def Afz (ua ub:UE) (ug:PV->Bh->(Bh->Prop)->Prop) (u:US):US:=fun d ρ=>ua ρ fun p=>ub ρ fun q=>bLL p q fun ps qs=>Tl (zpP ps qs) ug u d ρ
theorem Ajs {ρ:Bh} {d:Jc} {ua ub:UE} {ug:PV->Bh->(Bh->Prop)->Prop} {u:US} (q:ua ρ fun p=>ub ρ fun q=>bLL p q fun ps qs=>Tl (zpP ps qs) ug u d ρ):Afz ua ub ug u d ρ:=q
theorem Rep.lstE {G:Hp} {v:V} {ps:List PV} (h:Rep K C G v (.lst ps)):∃ a vs,v = .ref a/\SqL K G a vs/\Reps K C G vs ps:=by
 cases h with
 | lst e l q=>exact ⟨_,_,rfl,SqL.of e,l,q⟩
theorem AgS {top:Nat} {ta tb:TE} {ua ub:UE} {g:TG} {ug:PV->Bh->(Bh->Prop)->Prop} {ts:TS} {us:US} (ha:EU K C ω ta ua) (ha2:EU K C ω tb ub) (hg:GU K C ω top g ug) (hb:SU K C ω rm ts us):SU K C ω rm (Qf (AeN K ta tb) g ts) (Afz ua ub ug us) :=
 fun B G0 H0 own G σ H ρ D d S F hu=>ha B G0 H0 own G σ H ρ _ _ S hu fun v p G1 H1 w1 r1 h1=>ha2 B G0 H0 own G1 σ H1 ρ _ _ (S.grow w1) h1 fun v2 q G2 H2 w2 r2 ⟨ps,qs,e1,e2,I,i0,ist,iend⟩=>by
  subst e1 e2
  have S2:=(S.grow w1).grow w2
  obtain ⟨a,vs,rfl,sq,rp⟩:=(r1.mono w2.g).lstE
  obtain ⟨b,ws,rfl,sq2,rp2⟩:=r2.lstE
  refine ⟨a,b,rfl,rfl,⟨vs,w2.i.seq sq⟩,⟨ws,w2.i.seq sq2⟩,Ag2 (xs:=vs) (ys:=ws) (fun k σ' H'=>∃ own' G' ρ',Sat K C ω G2 G0 H0 own' G' σ' H' ρ'/\I k ρ') ⟨own,G2,ρ,S2.base (Same.refl _),i0⟩ (fun k σ' H' ⟨own',G',ρ',S',_⟩=>⟨(S'.kb.trans S'.gr.i).seq sq,(S'.kb.trans S'.gr.i).seq sq2⟩) (fun k x y t σ' H' hx hy ht ⟨own',G',ρ',S',hi⟩=>?_) fun σ' H' ⟨own',G',ρ',S',hi⟩=>?_⟩
  ·obtain ⟨q1,hq1,rq1⟩:=rp.get hx
   obtain ⟨q2,hq2,rq2⟩:=rp2.get hy
   have w3:Grow G' H' (upd G' t (.tup [x,y])) (upd H' t (.tup [x,y])):=Grow.put S'.gr.i ht (Same.new ht) Bl
   have S3:=S'.grow w3
   have rt:Rep K C (upd G' t (.tup [x,y])) (.ref t) (.tup [q1,q2]):=Rep.ofT Bl (LAt.snoc (LAt.snoc LAt.nil ((rq1.mono S'.kb).mono w3.g)) ((rq2.mono S'.kb).mono w3.g))
   exact hg G2 G0 H0 own' _ σ' _ ρ' (.ref t) _ _ _ S3 rt (ist k _ ρ' (AhF hq1 hq2) hi) fun own2 σ2 ρ2 S4 _ h2=>hb G2 G0 H0 own2 _ σ2 _ ρ2 _ _ S4 (Jy F S2.kb fun own3 G3 σ3 H3 ρ3 S5 h3=>⟨own3,G3,ρ3,S5,h3⟩) h2
  ·rw [rp.1,rp2.1,<- AgP] at hi
   exact F.nx own' G' σ' H' ρ' (S'.base (S2.kb.trans S'.kb)) (iend ρ' hi)
def Acv (ua:UE) (ug:PV->Bh->(Bh->Prop)->Prop) (uc:UT) (ue:UE) (k:Nat) (fr:List Nat):UE:=fun ρ P=>ua ρ fun p=>∃ ps,p = .lst ps/\ps.length <= 100000/\Sk ps.reverse ug uc ue (compρ k fr ρ) P
theorem AgL {ρ:Bh} {P:PV->Prop} {ua:UE} {ug:PV->Bh->(Bh->Prop)->Prop} {uc:UT} {ue:UE} {k:Nat} {fr:List Nat} (q:ua ρ fun p=>∃ ps,p = .lst ps/\ps.length <= 100000/\Sk ps.reverse ug uc ue (compρ k fr ρ) P):Acv ua ug uc ue k fr ρ P:=q
theorem Afj {ta:TE} {ua:UE} {k:Nat} {fr:List Nat} {g:TG} {ug:PV->Bh->(Bh->Prop)->Prop} {tc:TT} {uc:UT} {te:TE} {ue:UE} (ha:EB K C ω ta ua) (hg:GU K C Om.no k g ug) (hc:TU K C Om.no tc uc) (he:EU K C Om.no te ue):EF K C ω (Jm (AhN K ta) g tc te k fr) (Acv ua ug uc ue k fr) :=
 fun B G0 H0 own G σ H ρ P Q S hu kk=>Lp (ha B G0 H0 own G σ H ρ _ _ S hu fun v p G1 H1 w1 r1 ⟨ps,e,hl,I,i0,ist,iend⟩=>by
  subst e
  have S1:=S.grow w1
  obtain ⟨a,vs,rfl,ea,rp⟩:=r1.lst w1.i
  refine ⟨a,vs,rfl,SqL.of ea,fun D hD=>CP.rev vs (CSt K C G1 H1 D I) (Qb w1.i hD i0) (fun n H' ⟨G',_,_,w,_⟩=>w.h.seq (SqL.of ea)) (fun n x H' N hx st hN=>?_) fun H' st=>?_⟩
  ·obtain ⟨q,hq,rq⟩:=(Afc rp).get hx
   have hn:n < ps.length:=by simpa using (List.getElem?_eq_some_iff.mp hq).1
   exact Oy S1 hg hc he hD (by omega) (fun G' s=>rq.mono s) st hN fun rs hi=>ist n q rs hq hi
  ·obtain ⟨G',ys,rs,w,gD,eD,ry,_,hi⟩:=st
   rw [rp.1,<- List.length_reverse] at hi
   exact kk D _ G' H' (w1.trans w) (w1.h.free hD) gD (OwnA.ofL eD ry) (iend rs hi))
def AaP (ug:PV->Bh->(Bh->Prop)->Prop) (uc:UT) (ue:UE) (ρ':Bh) (P:PV->Prop) (ps:List PV):Prop:=∃ i j:Int,ps = [.int i,.int j]/\(-(2 ^ 62) <= i/\i < 2 ^ 62/\-(2 ^ 62) <= j/\j < 2 ^ 62)/\j - i < 100000/\∃ I:Nat->List PV->Prop,I 0 []/\(∀ n rs,n < (j - i).toNat->I n rs->ug (.int (i + n)) ρ' fun ρ2=>uc ρ2 fun b=>if b = true then ue ρ2 fun q=>I (n + 1) (rs ++ [q]) else I (n + 1) rs)/\∀ rs,I (j - i).toNat rs->P (.lst rs)
def Aa3 (u:UA) (ug:PV->Bh->(Bh->Prop)->Prop) (uc:UT) (ue:UE) (k:Nat) (fr:List Nat):UE:=fun ρ P=>u ρ fun ps=>AaP ug uc ue (compρ k fr ρ) P ps
theorem Ae3 {ρ:Bh} {P:PV->Prop} {u:UA} {ug:PV->Bh->(Bh->Prop)->Prop} {uc:UT} {ue:UE} {k:Nat} {fr:List Nat} (q:u ρ fun ps=>AaP ug uc ue (compρ k fr ρ) P ps):Aa3 u ug uc ue k fr ρ P:=q
theorem AdL {m m':Bool} {t:TA} {u:UA} {k:Nat} {fr:List Nat} {g:TG} {ug:PV->Bh->(Bh->Prop)->Prop} {tc:TT} {uc:UT} {te:TE} {ue:UE} (ha:AU K C ω [m,m'] t u) (hg:GU K C Om.no k g ug) (hc:TU K C Om.no tc uc) (he:EU K C Om.no te ue):EF K C ω (Jm (AbK t) g tc te k fr) (Aa3 u ug uc ue k fr) :=
 fun B G0 H0 own G σ H ρ P Q S hu kk=>Lp (show AbK t σ H _ from ha B G0 H0 own G σ H ρ _ _ S hu fun vs ps G1 H1 w1 ok ⟨i,j,e,hb,h2,I,i0,ist,iend⟩=>by
  have S1:=S.grow w1
  obtain ⟨v,v',p,p',rfl,e2,r,r'⟩:=Ub ok
  rw [e] at e2; cases e2
  refine ⟨i,j,by rw [r.int,r'.int],hb,fun D hD=>CP.range (CSt K C G1 H1 D I) (Qb w1.i hD i0) (fun n H' N hx st hN=>Oy S1 hg hc he hD (by omega) (fun G' s=>.int _) st hN fun rs hi=>ist n rs hx hi) fun H' st=>?_⟩
  obtain ⟨G',ys,rs,w,gD,eD,ry,_,hi⟩:=st
  exact kk D _ G' H' (w1.trans w) (w1.h.free hD) gD (OwnA.ofL eD ry) (iend rs hi))
def Ad9 (f:Int->Int->Int) (i:Nat) (ρ:Bh) (N:Bh->Prop) (p q:PV):Prop:=∃ a b,p = .int a/\q = .int b/\N (ρ.set i (.sh (.int (f a b))))
def Aiw (f:Int->Int->Int) (i:Nat) (ue:UE):US:=fun d ρ=>∃ s p,ρ[i]? = some s/\s.val = some p/\ue ρ fun q=>Ad9 f i ρ d.nx p q
theorem AkF {f:Int->Int->Int} {i:Nat} {ue:UE} {d:Jc} {ρ:Bh} {s:Sl} {p:PV} (h1:ρ[i]? = some s) (h2:s.val = some p) (q:ue ρ fun q=>Ad9 f i ρ d.nx p q):Aiw f i ue d ρ:=⟨s,p,h1,h2,q⟩
theorem Akn {f:Int->Int->Int} {i:Nat} {ρ:Bh} {N:Bh->Prop} {a b:Int} (q:N (ρ.set i (.sh (.int (f a b))))):Ad9 f i ρ N (.int a) (.int b):=⟨a,b,rfl,rfl,q⟩
theorem Aj9 {f:Int->Int->Int} {i:Nat} {te:TE} {ue:UE} (he:EB K C ω te ue):SU K C ω rm (AjT i te (ipI f)) (Aiw f i ue):=fun B G0 H0 own G σ H ρ D d S F ⟨s,p,h1,h2,hu⟩=>by
 have q:=S.sl i s h1
 have key:∃ v,σ[i]? = some (some v)/\∀ a,p = .int a->v = .int a:=by
  cases s with
  | un=>cases h2
  | sh p'=>cases h2; obtain ⟨v,e,r⟩:=q; exact ⟨v,e,fun a ea=>by subst ea; cases r; rfl⟩
  | bo p'=>cases h2; obtain ⟨v,e,r⟩:=q; exact ⟨v,e,fun a ea=>by subst ea; exact r.int⟩
  | ow p'=>cases h2; obtain ⟨a,e,_,r⟩:=q; exact ⟨_,e,fun a ea=>by subst ea; exact r.elim⟩
 obtain ⟨v,ev,hv⟩:=key
 refine ⟨v,ev,he B G0 H0 own G σ H ρ _ _ S hu fun y qv G1 H1 w1 r1 ⟨a,b,e1,e2,h⟩=>?_⟩
 subst e2
 exact ⟨a,b,hv a e1,r1.int,F.nx _ G1 _ H1 _ ((S.grow w1).setS (.int _)) h⟩
end
def cel (ns:List Int) (k:Int):Int:=ns.getD k.toNat 0
def sg (ns:List Int) (i:Nat):Int:=cel ns 0 % 10 ^ 29 + (1 + cel ns 1 % 10 ^ 6) * ((i:Int) * (1 + cel ns 1 / 10 ^ 6 % 28) % 29)
structure Ui (S:Nat->Int):Prop where
 nn:∀ i,0 <= S i
 inj:∀ i j,i < 29->j < 29->S i = S j->i = j
theorem Ala:∀ m:_root_.Fin 28,∀ d:_root_.Fin 28,¬ ((d.val + 1) * (m.val + 1) % 29 = 0):=by decide +kernel
theorem Ali (ns:List Int):Ui (sg ns):=by
 have hs:(0:Int) < 1 + cel ns 1 % 10 ^ 6:=by
  have:(0:Int) <= cel ns 1 % 10 ^ 6:=Int.emod_nonneg _ (by decide)
  omega
 refine ⟨fun i=>?_,fun i j hi hj h=>?_⟩
 ·unfold sg
  have h1:(0:Int) <= cel ns 0 % 10 ^ 29:=Int.emod_nonneg _ (by decide)
  have h3:(0:Int) <= (i:Int) * (1 + cel ns 1 / 10 ^ 6 % 28) % 29:=Int.emod_nonneg _ (by decide)
  have h4:=Int.mul_nonneg (Int.le_of_lt hs) h3
  omega
 ·unfold sg at h
  have h2:(i:Int) * (1 + cel ns 1 / 10 ^ 6 % 28) % 29 = (j:Int) * (1 + cel ns 1 / 10 ^ 6 % 28) % 29:=by
   have e:(1 + cel ns 1 % 10 ^ 6) * ((i:Int) * (1 + cel ns 1 / 10 ^ 6 % 28) % 29) = (1 + cel ns 1 % 10 ^ 6) * ((j:Int) * (1 + cel ns 1 / 10 ^ 6 % 28) % 29):=by omega
   exact Int.eq_of_mul_eq_mul_left (Int.ne_of_gt hs) e
  obtain ⟨m,em,hm⟩:∃ m:Nat,1 + cel ns 1 / 10 ^ 6 % 28 = ((m + 1:Nat):Int)/\m < 28:=⟨(cel ns 1 / 10 ^ 6 % 28).toNat,by omega,by omega⟩
  rw [em] at h2
  have core:∀ a b:Nat,a < 29->b < 29->a < b->(a:Int) * ((m + 1:Nat):Int) % 29 = (b:Int) * ((m + 1:Nat):Int) % 29->False:=by
   intro a b ha hb hab e
   obtain ⟨d,ed⟩:∃ d:Nat,b = a + (d + 1):=⟨b - a - 1,by omega⟩
   have z:=Ala ⟨m,hm⟩ ⟨d,by omega⟩
   apply z
   have e2:(b:Int) * ((m + 1:Nat):Int) = (a:Int) * ((m + 1:Nat):Int) + ((d + 1:Nat):Int) * ((m + 1:Nat):Int):=by rw [ed,Int.natCast_add,Int.add_mul]
   rw [e2] at e
   have e3:((d + 1:Nat):Int) * ((m + 1:Nat):Int) % 29 = 0:=by omega
   have e4:(((d + 1) * (m + 1):Nat):Int) % 29 = 0:=by rw [Int.natCast_mul]; exact e3
   show (d + 1) * (m + 1) % 29 = 0
   omega
  rcases Nat.lt_trichotomy i j with q | q | q
  ·exact (core i j hi hj q h2).elim
  ·exact q
  ·exact (core j i hj hi q h2.symm).elim
def sgL (S:Nat->Int) (n:Nat):List V:=(List.range n).map fun i=>V.int (S i)
theorem Gx {S:Nat->Int} {n i:Nat} (h:i < n):(sgL S n)[i]? = some (.int (S i)):=by
 unfold sgL
 rw [List.getElem?_map,List.getElem?_range h]; rfl
theorem Aeu (S:Nat->Int) (n:Nat):sgL S (n + 1) = sgL S n ++ [.int (S n)]:=by simp [sgL,List.range_succ]
structure MkR (S:Nat->Int) (R:List Sg):Prop where
 ln:R.length <= 5
 at':∀ (i:Nat) (s:Sg),R[i]? = some s->s.1 = S i/\s.2.1 = "mark"/\1 <= s.2.2
theorem MkR.nil {S:Nat->Int}:MkR S []:=⟨by decide,fun i s h=>by simp at h⟩
theorem Tk {α:Type} {R:List α} {x s:α} {i:Nat} (h:(R ++ [x])[i]? = some s):R[i]? = some s\/(i = R.length/\s = x):=by
 by_cases hi:i < R.length
 ·rw [List.getElem?_append_left hi] at h; exact .inl h
 ·rw [List.getElem?_append_right (by omega)] at h
  have hz:i - R.length = 0:=by
   have:=(List.getElem?_eq_some_iff.mp h).1
   simp at this; omega
  rw [hz] at h
  simp at h
  exact .inr ⟨by omega,h.symm⟩
theorem MkR.snoc {S:Nat->Int} {R:List Sg} (h:MkR S R) (hl:R.length < 5) {r:Int} (hr:1 <= r):MkR S (R ++ [((S R.length,"mark",r):Sg)]) :=
 ⟨by simp; omega,fun i s e=>by
  rcases Tk e with e | ⟨rfl,rfl⟩
  ·exact h.at' i s e
  ·exact ⟨rfl,rfl,hr⟩⟩
structure BsR (S:Nat->Int) (R:List Sg):Prop where
 ln:R.length <= 5
 at':∀ (i:Nat) (s:Sg),R[i]? = some s->s.1 = S (5 + i)/\s.2.1 ∈ joinedK/\s.2.2 = 0
theorem BsR.nil {S:Nat->Int}:BsR S []:=⟨by decide,fun i s h=>by simp at h⟩
theorem BsR.snoc {S:Nat->Int} {R:List Sg} (h:BsR S R) (hl:R.length < 5) {k:Str} (hk:k ∈ joinedK):BsR S (R ++ [(S (5 + R.length),k,0)]) :=
 ⟨by simp; omega,fun i s e=>by
  rcases Tk e with e | ⟨rfl,rfl⟩
  ·exact h.at' i s e
  ·exact ⟨rfl,hk,rfl⟩⟩
def kd5 (r:Int):Str:=joinedK.getD r.toNat "fore"
theorem AjN {r:Int} (h0:0 <= r) (h:r < 5):kd5 r ∈ joinedK:=by
 obtain ⟨n,rfl⟩:=Int.eq_ofNat_of_zero_le h0
 have hn:n < 5:=by omega
 unfold kd5
 rw [Int.toNat_natCast,List.getD_eq_getElem?_getD,List.getElem?_eq_getElem (show n < joinedK.length from hn)]
 exact List.getElem_mem _
theorem Ajm {r:Int} (h0:0 <= r) (h:r < 5):atI [V.str "fore",V.str "back",V.str "num",V.str "blank",V.str "plain"] r = some (.str (kd5 r)):=by
 obtain ⟨n,rfl⟩:=Int.eq_ofNat_of_zero_le h0
 have hn:n < 5:=by omega
 refine Dh ?_
 show (joinedK.map V.str)[n]? = _
 unfold kd5
 rw [Int.toNat_natCast,List.getElem?_map,List.getD_eq_getElem?_getD,List.getElem?_eq_getElem (show n < joinedK.length from hn)]
 rfl
inductive JB (S:Nat->Int) (R0 Mk:List Sg):Nat->List Sg->List Jn->Prop
 | nil:JB S R0 Mk 0 R0 []
 | skip {k:Nat} {R:List Sg} {J:List Jn} (h:JB S R0 Mk k R J):JB S R0 Mk (k + 1) R J
 | add {k:Nat} {R:List Sg} {J:List Jn} {s m:Sg} (h:JB S R0 Mk k R J) (hs:s ∈ R) (hm:m ∈ Mk) (hn:¬ (s.1,m.1) ∈ J.map (·.2)):JB S R0 Mk (k + 1) (R ++ [(S (10 + k),s.2.1,0)]) (J ++ [(S (10 + k),s.1,m.1)])
section
variable {S:Nat->Int} {R0 Mk R:List Sg} {J:List Jn} {k:Nat}
theorem JB.len (h:JB S R0 Mk k R J):J.length <= k/\R.length = R0.length + J.length:=by
 induction h with
 | nil=>exact ⟨Nat.le_refl _,rfl⟩
 | skip h ih=>exact ⟨by omega,ih.2⟩
 | add h hs hm hn ih=>refine ⟨by simp; omega,by simp; omega⟩
theorem JB.row (h:JB S R0 Mk k R J) (hB:BsR S R0):∀ s ∈ R,(∃ i,5 <= i/\i < 10 + k/\s.1 = S i)/\s.2.1 ∈ joinedK/\s.2.2 = 0:=by
 induction h with
 | nil =>
  intro s hs
  obtain ⟨i,hi⟩:=List.getElem?_of_mem hs
  obtain ⟨a,b,c⟩:=hB.at' i s hi
  have:=(List.getElem?_eq_some_iff.mp hi).1
  have:=hB.ln
  exact ⟨⟨5 + i,by omega,by omega,a⟩,b,c⟩
 | skip h ih =>
  intro s hs
  obtain ⟨⟨i,a,b,c⟩,d⟩:=ih s hs
  exact ⟨⟨i,a,by omega,c⟩,d⟩
 | add h hs hm hn ih =>
  rename_i k R J s m
  intro u hu
  rcases List.mem_append.mp hu with hu | hu
  ·obtain ⟨⟨i,a,b,c⟩,d⟩:=ih u hu
   exact ⟨⟨i,a,by omega,c⟩,d⟩
  ·rw [List.mem_singleton.mp hu]
   exact ⟨⟨10 + k,by omega,by omega,rfl⟩,(ih s hs).2.1,rfl⟩
theorem JB.whole (h:JB S R0 Mk k R J):∀ j ∈ J,∃ i,i < k/\j.1 = S (10 + i):=by
 induction h with
 | nil=>intro j hj; cases hj
 | skip h ih=>intro j hj; obtain ⟨i,a,b⟩:=ih j hj; exact ⟨i,by omega,b⟩
 | add h hs hm hn ih =>
  rename_i k R J s m
  intro j hj
  rcases List.mem_append.mp hj with hj | hj
  ·obtain ⟨i,a,b⟩:=ih j hj; exact ⟨i,by omega,b⟩
  ·rw [List.mem_singleton.mp hj]; exact ⟨k,by omega,rfl⟩
theorem JB.join (h:JB S R0 Mk k R J):∀ j ∈ J,(∃ s ∈ R,∃ u ∈ R,s.1 = j.1/\u.1 = j.2.1/\s.2.1 = u.2.1)/\∃ m ∈ Mk,m.1 = j.2.2:=by
 induction h with
 | nil=>intro j hj; cases hj
 | skip h ih=>exact ih
 | add h hs hm hn ih =>
  rename_i k R J s m
  intro j hj
  rcases List.mem_append.mp hj with hj | hj
  ·obtain ⟨⟨a,ha,b,hb,e⟩,d⟩:=ih j hj
   exact ⟨⟨a,List.mem_append_left _ ha,b,List.mem_append_left _ hb,e⟩,d⟩
  ·rw [List.mem_singleton.mp hj]
   exact ⟨⟨_,List.mem_append_right _ List.mem_cons_self,s,List.mem_append_left _ hs,rfl,rfl,rfl⟩,m,hm,rfl⟩
theorem JB.nodup (h:JB S R0 Mk k R J) (hk:k <= 7) (hS:Ui S) (hB:BsR S R0):(R.map (·.1)).Nodup/\(J.map (·.1)).Nodup/\(J.map (·.2)).Nodup:=by
 induction h with
 | nil =>
  refine ⟨?_,List.nodup_nil,List.nodup_nil⟩
  refine Jt fun i j x h1 h2=>?_
  rw [List.getElem?_map] at h1 h2
  obtain ⟨s1,e1,z1⟩:=Option.map_eq_some_iff.mp h1
  obtain ⟨s2,e2,z2⟩:=Option.map_eq_some_iff.mp h2
  have l1:=(List.getElem?_eq_some_iff.mp e1).1
  have l2:=(List.getElem?_eq_some_iff.mp e2).1
  have e':S (5 + i) = S (5 + j):=by rw [<- (hB.at' i _ e1).1,<- (hB.at' j _ e2).1,z1,z2]
  have:=hB.ln
  have:=hS.inj _ _ (by omega) (by omega) e'
  omega
 | skip h ih=>exact ih (by omega)
 | add h hs hm hn ih =>
  rename_i k R J s m
  obtain ⟨a,b,c⟩:=ih (by omega)
  refine ⟨?_,?_,?_⟩
  ·rw [List.map_append]
   refine List.nodup_append.mpr ⟨a,by simp,fun x hx y hy e=>?_⟩
   obtain ⟨u,hu,rfl⟩:=List.mem_map.mp hx
   obtain ⟨⟨i,h1,h2,h3⟩,_⟩:=h.row hB u hu
   have e2:y = S (10 + k):=by simpa using hy
   rw [h3,e2] at e
   have:=hS.inj _ _ (by omega) (by omega) e
   omega
  ·rw [List.map_append]
   refine List.nodup_append.mpr ⟨b,by simp,fun x hx y hy e=>?_⟩
   obtain ⟨u,hu,rfl⟩:=List.mem_map.mp hx
   obtain ⟨i,h1,h3⟩:=h.whole u hu
   have e2:y = S (10 + k):=by simpa using hy
   rw [h3,e2] at e
   have:=hS.inj _ _ (by omega) (by omega) e
   omega
  ·rw [List.map_append]
   refine List.nodup_append.mpr ⟨c,by simp,fun x hx y hy e=>?_⟩
   have e2:y = (s.1,m.1):=by simpa using hy
   rw [<- e2,<- e] at hn
   exact hn hx
theorem Wz {J:List Jn} {w:Jn} {n:Int} (h:¬ w.1 = n):Ct (J ++ [w]) n = Ct J n:=by
 induction J with
 | nil=>show (if w.1 = n then some w.2 else none) = none; rw [if_neg h]
 | cons x r ih =>
  show (if x.1 = n then some x.2 else Ct (r ++ [w]) n) = if x.1 = n then some x.2 else Ct r n
  rw [ih]
theorem Um (J:List Jn) (n:Int):∀ k,jGo J (k + 1) n = jGo J k (Fa J n)
 | 0=>rfl
 | k + 1=>by
  show Fa J (jGo J (k + 1) n) = Fa J (jGo J k (Fa J n))
  rw [Um J n k]
theorem Aao {J:List Jn} {w:Jn} (hb:∀ j ∈ J,¬ j.2.1 = w.1):∀ (k:Nat) (n:Int),¬ n = w.1->jGo (J ++ [w]) k n = jGo J k n/\¬ jGo J k n = w.1
 | 0,n,h=>⟨rfl,h⟩
 | k + 1,n,h=>by
  obtain ⟨e,ne⟩:=Aao hb k n h
  show Fa (J ++ [w]) (jGo (J ++ [w]) k n) = Fa J (jGo J k n)/\¬ Fa J (jGo J k n) = w.1
  rw [e]
  unfold Fa
  rw [Wz fun z=>ne z.symm]
  refine ⟨rfl,?_⟩
  cases z:Ct J (jGo J k n) with
  | none=>exact ne
  | some m=>exact hb _ (Lc z)
theorem JB.ends (h:JB S R0 Mk k R J) (hk:k <= 7) (hS:Ui S) (hB:BsR S R0):∀ s ∈ R,Ct J (jGo J k s.1) = none:=by
 induction h with
 | nil=>intro s hs; rfl
 | skip h ih =>
  intro s hs
  have z:=ih (by omega) s hs
  rename_i k R J
  show Ct J (Fa J (jGo J k s.1)) = none
  unfold Fa
  rw [z]; exact z
 | add h hs hm hn ih =>
  rename_i k R J s m
  have ih:=ih (by omega)
  have old:∀ u ∈ R,¬ u.1 = S (10 + k):=fun u hu e=>by
   obtain ⟨⟨i,h1,h2,h3⟩,_⟩:=h.row hB u hu
   rw [h3] at e
   have:=hS.inj _ _ (by omega) (by omega) e
   omega
  have hb:∀ j ∈ J,¬ j.2.1 = ((S (10 + k),s.1,m.1):Jn).1:=fun j hj=>by
   obtain ⟨⟨_,_,u,hu,_,e,_⟩,_⟩:=h.join j hj
   rw [<- e]; exact old u hu
  have one:∀ u ∈ R,Ct (J ++ [(S (10 + k),s.1,m.1)]) (jGo (J ++ [(S (10 + k),s.1,m.1)]) k u.1) = none:=fun u hu=>by
   obtain ⟨e,ne⟩:=Aao hb k u.1 (old u hu)
   rw [e,Wz fun z=>ne z.symm]
   exact ih u hu
  intro u hu
  rcases List.mem_append.mp hu with hu | hu
  ·show Ct _ (Fa _ (jGo _ k u.1)) = none
   unfold Fa
   rw [one u hu]; exact one u hu
  ·rw [List.mem_singleton.mp hu]
   rw [Um]
   have hw:¬ S (10 + k) ∈ J.map (·.1):=fun z=>by
    obtain ⟨j,hj,e⟩:=List.mem_map.mp z
    obtain ⟨⟨v,hv,_,_,e2,_,_⟩,_⟩:=h.join j hj
    exact old v hv (e2.trans e)
   have st:Fa (J ++ [(S (10 + k),s.1,m.1)]) (S (10 + k)) = s.1:=by
    unfold Fa
    have:∀ J':List Jn,¬ S (10 + k) ∈ J'.map (·.1)->Ct (J' ++ [(S (10 + k),s.1,m.1)]) (S (10 + k)) = some (s.1,m.1):=by
     intro J'
     induction J' with
     | nil=>intro _; show (if S (10 + k) = S (10 + k) then _ else _) = _; rw [if_pos rfl]
     | cons x r ih2 =>
      intro hx
      show (if x.1 = S (10 + k) then some x.2 else Ct (r ++ _) _) = _
      rw [if_neg fun z=>hx (by rw [<- z]; exact List.mem_cons_self)]
      exact ih2 fun z=>hx (List.mem_cons_of_mem _ z)
    rw [this J hw]
   show Ct _ (jGo _ k (Fa _ (S (10 + k)))) = none
   rw [st]
   exact one s hs
theorem Uo {J:List Jn} {n:Int} {k:Nat} (h:Ct J (jGo J k n) = none):∀ d,jGo J (k + d) n = jGo J k n
 | 0=>rfl
 | d + 1=>by
  show Fa J (jGo J (k + d) n) = _
  rw [Uo h d]
  unfold Fa
  rw [h]
theorem JB.ends7 (h:JB S R0 Mk k R J) (hk:k <= 7) (hS:Ui S) (hB:BsR S R0):∀ j ∈ J,Ct J (jGo J 7 j.1) = none:=by
 intro j hj
 obtain ⟨⟨s,hs,_,_,e,_,_⟩,_⟩:=h.join j hj
 have z:=h.ends hk hS hB s hs
 rw [e] at z
 have e7:jGo J 7 j.1 = jGo J k j.1:=by
  have e:=Uo z (7 - k)
  rw [show k + (7 - k) = 7 by omega] at e
  exact e
 rw [e7]; exact z
end
structure Fq (S:List Sg) (M:List (Int × Int)) (J:List Jn):Prop where
 so:∀ s ∈ S,Xj s
 mo:∀ m ∈ M,0 <= m.1/\0 <= m.2
 nd:(S.map (·.1) ++ ends M).Nodup
 jo:Yr (kK S ++ kM M) J
 ln:S.length + 2 * M.length <= 60
 jl:J.length <= 7
 mr:∃ s ∈ S,s.2.1 = "mark"
def Ad7:List Str:=["mark","fore","back","num","blank","plain","forein","backin","out"]
theorem AhJ:∀ z ∈ joinedK,z ∈ Ad7:=by decide +kernel
theorem AjP:∀ z ∈ Ad7,¬ z = "plain"->z ∈ toldK:=by decide +kernel
def Fg (S:Nat->Int):List Sg:=[(S 17,"forein",0),(S 18,"backin",0),(S 19,"out",0)]
def Gj (S:Nat->Int):List (Int × Int):=[(S 20,S 21),(S 23,S 22)]
section
variable {S:Nat->Int} {R0 Mk R:List Sg} {J:List Jn} {k x y t:Nat}
theorem AhV (hM:MkR S Mk) (hB:BsR S R0) (h:JB S R0 Mk k R J) (hk:k <= 7):∀ s ∈ Mk ++ R ++ (Fg S).take x,(∃ i,i < 20/\s.1 = S i)/\s.2.1 ∈ Ad7/\Uz s.2.1 s.2.2:=by
 intro s hs
 rcases List.mem_append.mp hs with hs | hs
 ·rcases List.mem_append.mp hs with hs | hs
  ·obtain ⟨i,hi⟩:=List.getElem?_of_mem hs
   obtain ⟨a,b,c⟩:=hM.at' i s hi
   have:=(List.getElem?_eq_some_iff.mp hi).1
   have:=hM.ln
   exact ⟨⟨i,by omega,a⟩,by rw [b]; decide +kernel,.inl ⟨b,c⟩⟩
  ·obtain ⟨⟨i,a,b,c⟩,d,e⟩:=h.row hB s hs
   exact ⟨⟨i,by omega,c⟩,AhJ _ d,.inr ⟨fun z=>by rw [z] at d; revert d; decide +kernel,e⟩⟩
 ·have hs:=List.mem_of_mem_take hs
  simp only [Fg,List.mem_cons,List.not_mem_nil,or_false] at hs
  rcases hs with rfl | rfl | rfl
  ·exact ⟨⟨17,by omega,rfl⟩,(show ("forein" : Str) ∈ _ by decide +kernel),.inr ⟨(show ¬ ("forein" : Str) = "mark" by decide +kernel),rfl⟩⟩
  ·exact ⟨⟨18,by omega,rfl⟩,(show ("backin" : Str) ∈ _ by decide +kernel),.inr ⟨(show ¬ ("backin" : Str) = "mark" by decide +kernel),rfl⟩⟩
  ·exact ⟨⟨19,by omega,rfl⟩,(show ("out" : Str) ∈ _ by decide +kernel),.inr ⟨(show ¬ ("out" : Str) = "mark" by decide +kernel),rfl⟩⟩
theorem AiP (hS:Ui S) (hM:MkR S Mk) (hB:BsR S R0) (h:JB S R0 Mk k R J) (hk:k <= 7):((Mk ++ R ++ (Fg S).take x).map (·.1)).Nodup:=by
 rw [List.map_append,List.map_append]
 have a1:∀ n ∈ Mk.map (·.1),∃ i,i < 5/\n = S i:=fun n hn=>by
  obtain ⟨s,hs,rfl⟩:=List.mem_map.mp hn
  obtain ⟨i,hi⟩:=List.getElem?_of_mem hs
  have:=(List.getElem?_eq_some_iff.mp hi).1
  have:=hM.ln
  exact ⟨i,by omega,(hM.at' i s hi).1⟩
 have a2:∀ n ∈ R.map (·.1),∃ i,5 <= i/\i < 17/\n = S i:=fun n hn=>by
  obtain ⟨s,hs,rfl⟩:=List.mem_map.mp hn
  obtain ⟨⟨i,a,b,c⟩,_⟩:=h.row hB s hs
  exact ⟨i,a,by omega,c⟩
 have a3:∀ n ∈ ((Fg S).take x).map (·.1),∃ i,17 <= i/\i < 20/\n = S i:=fun n hn=>by
  obtain ⟨s,hs,rfl⟩:=List.mem_map.mp hn
  have hs:=List.mem_of_mem_take hs
  simp only [Fg,List.mem_cons,List.not_mem_nil,or_false] at hs
  rcases hs with rfl | rfl | rfl
  ·exact ⟨17,by omega,by omega,rfl⟩
  ·exact ⟨18,by omega,by omega,rfl⟩
  ·exact ⟨19,by omega,by omega,rfl⟩
 refine List.nodup_append.mpr ⟨List.nodup_append.mpr ⟨?_,(h.nodup hk hS hB).1,?_⟩,?_,?_⟩
 ·refine Jt fun i j x h1 h2=>?_
  rw [List.getElem?_map] at h1 h2
  obtain ⟨s1,e1,z1⟩:=Option.map_eq_some_iff.mp h1
  obtain ⟨s2,e2,z2⟩:=Option.map_eq_some_iff.mp h2
  have l1:=(List.getElem?_eq_some_iff.mp e1).1
  have l2:=(List.getElem?_eq_some_iff.mp e2).1
  have e':S i = S j:=by rw [<- (hM.at' i _ e1).1,<- (hM.at' j _ e2).1,z1,z2]
  have:=hM.ln
  exact hS.inj _ _ (by omega) (by omega) e'
 ·intro a ha b hb e
  obtain ⟨i,h1,h2⟩:=a1 a ha
  obtain ⟨j,h3,h4,h5⟩:=a2 b hb
  have:=hS.inj i j (by omega) (by omega) (by rw [<- h2,<- h5,e])
  omega
 ·rw [List.map_take]
  refine List.Pairwise.sublist (List.take_sublist _ _) (Jt fun i j x h1 h2=>?_)
  have g:∀ i z,((Fg S).map (·.1))[i]? = some z->i < 3/\z = S (17 + i):=fun i z hz=>by
   match i,hz with
   | 0,hz=>cases hz; exact ⟨by omega,rfl⟩
   | 1,hz=>cases hz; exact ⟨by omega,rfl⟩
   | 2,hz=>cases hz; exact ⟨by omega,rfl⟩
   | _ + 3,hz=>simp [Fg] at hz
  obtain ⟨g1,g2⟩:=g i x h1
  obtain ⟨g3,g4⟩:=g j x h2
  have:=hS.inj (17 + i) (17 + j) (by omega) (by omega) (by rw [<- g2,<- g4])
  omega
 ·intro a ha b hb e
  obtain ⟨j,h3,h4,h5⟩:=a3 b hb
  have:∃ i,i < 17/\a = S i:=by
   rcases List.mem_append.mp ha with ha | ha
   ·obtain ⟨i,h1,h2⟩:=a1 a ha; exact ⟨i,by omega,h2⟩
   ·obtain ⟨i,h1,h2,h3⟩:=a2 a ha; exact ⟨i,by omega,h3⟩
  obtain ⟨i,h1,h2⟩:=this
  have:=hS.inj i j (by omega) (by omega) (by rw [<- h2,<- h5,e])
  omega
def Jb (S:Nat->Int) (Mk R:List Sg) (x:Nat):List Sg:=(Mk ++ R ++ (Fg S).take x).filter fun s=>!decide (s.2.1 = "plain")
def Nq (t:Nat) (T:List Sg):List Sg:=T.drop t ++ T.take t
theorem AdS (t:Nat) (T:List Sg):(Nq t T).Perm T:=by
 unfold Nq
 exact List.perm_append_comm.trans (by rw [List.take_append_drop])
theorem Zj:∀ n ∈ ends ((Gj S).take y),∃ i,20 <= i/\i < 24/\n = S i:=by
 intro n hn
 have key:∀ z,y = z->∃ i,20 <= i/\i < 24/\n = S i:=by
  intro z hz
  match z,hz with
  | 0,hz=>subst hz; simp [ends] at hn
  | 1,hz =>
   subst hz
   simp [Gj,ends] at hn
   rcases hn with h | h
   ·exact ⟨20,by omega,by omega,h⟩
   ·exact ⟨21,by omega,by omega,h⟩
  | z + 2,hz =>
   subst hz
   simp [Gj,ends] at hn
   rcases hn with h | h | h | h
   ·exact ⟨20,by omega,by omega,h⟩
   ·exact ⟨21,by omega,by omega,h⟩
   ·exact ⟨23,by omega,by omega,h⟩
   ·exact ⟨22,by omega,by omega,h⟩
 exact key y rfl
theorem AeF (hS:Ui S):(ends ((Gj S).take y)).Nodup:=by
 have ne:∀ i j,i < 29->j < 29->i ≠ j->¬ S i = S j:=fun i j a b c e=>c (hS.inj i j a b e)
 match y with
 | 0=>exact List.nodup_nil
 | 1 =>
  show [S 20,S 21].Nodup
  simp [ne 20 21 (by omega) (by omega) (by omega)]
 | y + 2 =>
  rw [show ends ((Gj S).take (y + 2)) = [S 20,S 21,S 23,S 22] by simp [Gj,ends]]
  simp [ne 20 21 (by omega) (by omega) (by omega),ne 20 22 (by omega) (by omega) (by omega),ne 20 23 (by omega) (by omega) (by omega),ne 21 22 (by omega) (by omega) (by omega),ne 21 23 (by omega) (by omega) (by omega),ne 23 22 (by omega) (by omega) (by omega)]
theorem AeR (hS:Ui S) (hM:MkR S Mk) (hM1:Mk ≠ []) (hB:BsR S R0) (h:JB S R0 Mk k R J) (hk:k <= 7):Fq (Nq t (Jb S Mk R x)) ((Gj S).take y) J:=by
 have pm:=AdS t (Jb S Mk R x)
 have mem:∀ s,s ∈ Nq t (Jb S Mk R x) ↔ s ∈ Mk ++ R ++ (Fg S).take x/\¬ s.2.1 = "plain":=fun s=>by
  rw [pm.mem_iff]
  unfold Jb
  rw [List.mem_filter]
  simp
 have ix:=AhV (x:=x) hM hB h hk
 have rnd:=AiP (x:=x) hS hM hB h hk
 have ndT:((Jb S Mk R x).map (·.1)).Nodup:=List.Pairwise.sublist (List.Sublist.map _ List.filter_sublist) rnd
 have ndU:((Nq t (Jb S Mk R x)).map (·.1)).Nodup:=(pm.map (·.1)).nodup_iff.mpr ndT
 have nd:((Nq t (Jb S Mk R x)).map (·.1) ++ ends ((Gj S).take y)).Nodup:=by
  refine List.nodup_append.mpr ⟨ndU,AeF hS,fun a ha b hb e=>?_⟩
  obtain ⟨s,hs,rfl⟩:=List.mem_map.mp ha
  obtain ⟨⟨i,h1,h2⟩,_⟩:=ix s ((mem s).mp hs).1
  obtain ⟨j,h3,h4,h5⟩:=Zj b hb
  have:=hS.inj i j (by omega) (by omega) (by rw [<- h2,<- h5,e])
  omega
 have kn:∀ s ∈ Mk ++ R ++ (Fg S).take x,knd (kK (Nq t (Jb S Mk R x)) ++ kM ((Gj S).take y)) s.1 = .str s.2.1:=fun s hs=>by
  unfold knd
  by_cases z:s.2.1 = "plain"
  ·rw [z]
   refine AiI fun w=>?_
   rcases List.mem_append.mp w with w | w
   ·obtain ⟨u,hu,e⟩:=List.mem_map.mp w
    obtain ⟨hu1,hu2⟩:=(mem u).mp hu
    have:u = s:=by
     obtain ⟨i,hi⟩:=List.getElem?_of_mem hu1
     obtain ⟨j,hj⟩:=List.getElem?_of_mem hs
     have li:=(List.getElem?_eq_some_iff.mp hi).1
     have q1:((Mk ++ R ++ (Fg S).take x).map (·.1))[i]? = some s.1:=by rw [List.getElem?_map,hi]; exact congrArg some e
     have q2:((Mk ++ R ++ (Fg S).take x).map (·.1))[j]? = some s.1:=by rw [List.getElem?_map,hj]; rfl
     have:i = j:=by
      rcases Nat.lt_trichotomy i j with c | c | c
      ·exact absurd (List.mem_of_getElem? (by rw [List.getElem?_take,if_pos c]; exact q1)) (Sd rnd q2)
      ·exact c
      ·exact absurd (List.mem_of_getElem? (by rw [List.getElem?_take,if_pos c]; exact q2)) (Sd rnd q1)
     subst this
     rw [hi] at hj; exact Option.some.inj hj
    subst this
    exact hu2 z
   ·obtain ⟨⟨i,h1,h2⟩,_⟩:=ix s hs
    obtain ⟨j,h3,h4,h5⟩:=Zj _ w
    have:=hS.inj i j (by omega) (by omega) (by rw [<- h2,<- h5])
    omega
  ·exact AaI nd ((mem s).mpr ⟨hs,z⟩)
 have inM:∀ {s:Sg},s ∈ Mk->s ∈ Mk ++ R ++ (Fg S).take x:=fun h=>List.mem_append_left _ (List.mem_append_left _ h)
 have inR:∀ {s:Sg},s ∈ R->s ∈ Mk ++ R ++ (Fg S).take x:=fun h=>List.mem_append_left _ (List.mem_append_right _ h)
 have mkk:∀ s ∈ Mk,s.2.1 = "mark":=fun s hs=>by
  obtain ⟨i,hi⟩:=List.getElem?_of_mem hs
  exact (hM.at' i s hi).2.1
 have nn:∀ s ∈ Mk ++ R ++ (Fg S).take x,0 <= s.1:=fun s hs=>by
  obtain ⟨⟨i,_,e⟩,_⟩:=ix s hs
  rw [e]; exact hS.nn i
 obtain ⟨l1,l2⟩:=h.len
 have lM:=hM.ln
 have lB:=hB.ln
 refine ⟨fun s hs=>?_,fun m hm=>?_,nd,⟨fun j hj=>?_,fun j hj=>?_,fun j hj=>?_,(h.nodup hk hS hB).2.1,(h.nodup hk hS hB).2.2,h.ends7 hk hS hB,by omega⟩,?_,by omega,?_⟩
 ·obtain ⟨h1,h2⟩:=(mem s).mp hs
  obtain ⟨_,b,c⟩:=ix s h1
  exact ⟨nn s h1,AjP _ b h2,c⟩
 ·have hm:=List.mem_of_mem_take hm
  simp only [Gj,List.mem_cons,List.not_mem_nil,or_false] at hm
  rcases hm with rfl | rfl <;> exact ⟨hS.nn _,hS.nn _⟩
 ·obtain ⟨⟨s,hs,u,hu,e1,e2,_⟩,m,hm,e3⟩:=h.join j hj
  exact ⟨by rw [<- e1]; exact nn s (inR hs),by rw [<- e2]; exact nn u (inR hu),by rw [<- e3]; exact nn m (inM hm)⟩
 ·obtain ⟨_,m,hm,e3⟩:=h.join j hj
  rw [<- e3,kn m (inM hm),mkk m hm]
 ·obtain ⟨⟨s,hs,u,hu,e1,e2,e3⟩,_⟩:=h.join j hj
  exact ⟨s.2.1,(h.row hB s hs).2.1,by rw [<- e1]; exact kn s (inR hs),by rw [<- e2,e3]; exact kn u (inR hu)⟩
 ·have z1:(Nq t (Jb S Mk R x)).length = (Jb S Mk R x).length:=pm.length_eq
  have z2:(Jb S Mk R x).length <= (Mk ++ R ++ (Fg S).take x).length:=List.length_filter_le _ _
  have z3:((Fg S).take x).length <= 3:=by rw [List.length_take]; simp [Fg]; omega
  have z4:((Gj S).take y).length <= 2:=by rw [List.length_take]; simp [Gj]; omega
  rw [List.length_append,List.length_append] at z2
  omega
 ·obtain ⟨m,hm⟩:∃ m,m ∈ Mk:=List.exists_mem_of_ne_nil _ hM1
  exact ⟨m,(mem m).mpr ⟨inM hm,by rw [mkk m hm]; decide +kernel⟩,mkk m hm⟩
end
theorem Tf {kvs:List (Key × V)} {k:Key} {v:V} (h:Ci kvs k = some v):(k,v) ∈ kvs:=by
 unfold Ci at h
 obtain ⟨p,h1,h2⟩:=Option.map_eq_some_iff.mp h
 have e0:=List.find?_some h1
 have e:p.1 = k:=of_decide_eq_true e0
 have:p = (k,v):=Prod.ext e h2
 rw [<- this]
 exact List.mem_of_find?_eq_some h1
theorem AdN {M:List (Int × Int)} {p:Key × V} (h:p ∈ kM M):p.2 = .str "open"\/p.2 = .str "shut":=by
 induction M with
 | nil=>cases h
 | cons x r ih =>
  rcases List.mem_cons.mp h with e | h
  ·rw [e]; exact .inl rfl
  ·rcases List.mem_cons.mp h with e | h
   ·rw [e]; exact .inr rfl
   ·exact ih h
theorem AbR (U:List Sg) (M:List (Int × Int)) (n:Int):(Ci (kK U ++ kM M) (Sum.inl n)).getD (.str "plain") = .str (Zg U M n):=by
 unfold Zg
 cases e:Ci (kK U ++ kM M) (Sum.inl n) with
 | none=>rfl
 | some v =>
  rcases List.mem_append.mp (Tf e) with h | h
  ·obtain ⟨s,_,z⟩:=List.mem_map.mp h
   have:V.str s.2.1 = v:=(Prod.mk.inj z).2
   rw [<- this]; rfl
  ·rcases AdN h with z | z
   ·have z:v = .str "open":=z
    rw [z]; rfl
   ·have z:v = .str "shut":=z
    rw [z]; rfl
theorem Af4 (U:List Sg) (n:Int):(Ci (kR U) (Sum.inl n)).getD (.int 0) = .int (Bz U n):=by
 unfold Bz
 cases e:Ci (kR U) (Sum.inl n) with
 | none=>rfl
 | some v =>
  obtain ⟨s,_,z⟩:=List.mem_map.mp (Tf e)
  have:V.int s.2.2 = v:=(Prod.mk.inj z).2
  rw [<- this]; rfl
theorem Ua {U:List Sg} {M:List (Int × Int)} {n:Int} {k:Str} (h:(Ci (kK U ++ kM M) (Sum.inl n)).getD (.str "plain") = .str k):Zg U M n = k:=by
 rw [AbR] at h
 exact V.str.inj h
theorem Wx {U:List Sg} (nd:(U.map (·.1)).Nodup) {s:Sg} (h:s ∈ U):Bz U s.1 = s.2.2:=by
 unfold Bz
 have nd':((kR U).map (·.1)).Nodup:=by rw [AaB]; exact Nc nd
 have hm:((Sum.inl s.1,V.int s.2.2):Key × V) ∈ kR U:=List.mem_map.mpr ⟨s,h,rfl⟩
 rw [Yv nd' hm]
 rfl
theorem Aek {U:List Sg} {n:Int} (h:¬ n ∈ U.map (·.1)):Bz U n = 0:=by
 have:=AjI h
 rw [Af4] at this
 exact V.int.inj this
theorem AgM {U:List Sg} {M:List (Int × Int)} {J:List Jn} (b:Fq U M J) {n:Int} (h:Zg U M n = "mark"):1 <= Bz U n:=by
 have e:=AbR U M n
 rw [h] at e
 cases z:Ci (kK U ++ kM M) (Sum.inl n) with
 | none =>
  rw [z] at e
  have e':V.str "plain" = V.str "mark":=e
  exact absurd (V.str.inj e') (by decide +kernel)
 | some v =>
  rw [z] at e
  have e':v = .str "mark":=e
  subst e'
  rcases List.mem_append.mp (Tf z) with w | w
  ·obtain ⟨s,hs,q⟩:=List.mem_map.mp w
   have q1:s.1 = n:=Sum.inl.inj (Prod.mk.inj q).1
   have q2:s.2.1 = "mark":=V.str.inj (Prod.mk.inj q).2
   rw [<- q1,Wx (List.nodup_append.mp b.nd).1 hs]
   rcases (b.so s hs).rk with ⟨_,r⟩ | ⟨r,_⟩
   ·exact r
   ·exact absurd q2 r
  ·rcases AdN w with q | q
   ·have q:V.str "mark" = .str "open":=q
    exact absurd (V.str.inj q) (by decide +kernel)
   ·have q:V.str "mark" = .str "shut":=q
    exact absurd (V.str.inj q) (by decide +kernel)
def Bw (U:List Sg) (M:List (Int × Int)) (n:Int):Bool:=decide (Zg U M n = "mark")
def Nf (mk:Int->Bool) (gs:List (List Int)) (n:Int):List (List Int):=if gs = []\/mk n = false then gs ++ [[n]] else gs.dropLast ++ [gs.getLast?.getD [] ++ [n]]
def grp (mk:Int->Bool) (ts:List Int):List (List Int):=ts.foldl (Nf mk) []
theorem Aae (mk:Int->Bool) (ts:List Int) (n:Int):grp mk (ts ++ [n]) = Nf mk (grp mk ts) n:=by simp [grp]
theorem Ln {mk:Int->Bool} {gs:List (List Int)} {n:Int} (h:gs = []\/mk n = false):Nf mk gs n = gs ++ [[n]]:=if_pos h
theorem Rb {mk:Int->Bool} {gs:List (List Int)} {g:List Int} {n:Int} (h:mk n = true):Nf mk (gs ++ [g]) n = gs ++ [g ++ [n]]:=by
 unfold Nf
 rw [if_neg (by rintro (z | z); (simp at z); (rw [h] at z; cases z))]
 simp
theorem AhE {mk:Int->Bool} (P:List (List Int)->List Int->Prop) (h0:P [] []) (hs:∀ gs ts n,P gs ts->P (Nf mk gs n) (ts ++ [n])) (ts:List Int):P (grp mk ts) ts:=by
 have key:∀ (ts:List Int) (acc:List (List Int)) (pre:List Int),P acc pre->P (ts.foldl (Nf mk) acc) (pre ++ ts):=by
  intro ts
  induction ts with
  | nil=>intro acc pre h; rw [List.append_nil]; exact h
  | cons n r ih =>
   intro acc pre h
   have:=ih (Nf mk acc n) (pre ++ [n]) (hs acc pre n h)
   rw [List.append_assoc] at this
   exact this
 exact key ts [] [] h0
structure AfW (mk:Int->Bool) (gs:List (List Int)) (ts:List Int):Prop where
 fl:gs.flatten = ts
 ln:gs.length <= ts.length
 ne:∀ g ∈ gs,∃ n r,g = n :: r/\∀ m ∈ r,mk m = true
 hd:∀ (i:Nat) (g:List Int),gs[i]? = some g->0 < i->∃ n r,g = n :: r/\mk n = false
theorem Fw (mk:Int->Bool) (ts:List Int):AfW mk (grp mk ts) ts:=by
 refine AhE (AfW mk) ⟨rfl,Nat.le_refl _,(fun g h=>by cases h),(fun i g h=>by simp at h)⟩ (fun gs ts n h=>?_) ts
 by_cases z:gs = []\/mk n = false
 ·rw [Ln z]
  refine ⟨by rw [List.flatten_append,h.fl]; rfl,by have:=h.ln; simp; omega,fun g hg=>?_,fun i g e hi=>?_⟩
  ·rcases List.mem_append.mp hg with hg | hg
   ·exact h.ne g hg
   ·rw [List.mem_singleton.mp hg]; exact ⟨n,[],rfl,(fun m hm=>by cases hm)⟩
  ·rcases Tk e with e | ⟨e1,e2⟩
   ·exact h.hd i g e hi
   ·rcases z with z | z
    ·rw [z] at e1; rw [e1] at hi; exact absurd hi (Nat.lt_irrefl _)
    ·exact ⟨n,[],e2,z⟩
 ·rcases List.eq_nil_or_concat gs with e | ⟨gs',g',rfl⟩
  ·exact absurd (.inl e) z
  ·have hm:mk n = true:=by
    cases w:mk n with
    | true=>rfl
    | false=>exact absurd (.inr w) z
   rw [List.concat_eq_append] at h z ⊢
   rw [Rb hm]
   obtain ⟨a,r,eg,hr⟩:=h.ne g' (List.mem_append_right _ List.mem_cons_self)
   refine ⟨by rw [<- h.fl]; simp,by have:=h.ln; simp at this ⊢; omega,fun g hg=>?_,fun i g e hi=>?_⟩
   ·rcases List.mem_append.mp hg with hg | hg
    ·exact h.ne g (List.mem_append_left _ hg)
    ·rw [List.mem_singleton.mp hg,eg]
     refine ⟨a,r ++ [n],rfl,fun m hm'=>?_⟩
     rcases List.mem_append.mp hm' with w | w
     ·exact hr m w
     ·rw [List.mem_singleton.mp w]; exact hm
   ·rcases Tk e with e | ⟨e1,e2⟩
    ·have hlt:=(List.getElem?_eq_some_iff.mp e).1
     exact h.hd i g (by rw [List.getElem?_append_left hlt]; exact e) hi
    ·obtain ⟨n',r',q1,q2⟩:=h.hd i g' (by rw [e1]; simp) hi
     exact ⟨n',r' ++ [n],by rw [e2,q1]; rfl,q2⟩
def Qr (H:Hp) (x:V) (g:List Int):Prop:=∃ p,x = .ref p/\H p = some (.lst (g.map V.int))
theorem LAt.monoM {β α:Type} {R R':Hp->β->α->Prop} {H H':Hp} {xs:List β} {ys:List α} (h:LAt R H xs ys) (m:∀ x ∈ xs,∀ y,R H x y->R' H' x y):LAt R' H' xs ys:=⟨h.1,fun i x y e1 e2=>m x (List.mem_of_getElem? e1) y (h.2 i x y e1 e2)⟩
theorem LAt.lstS {H H':Hp} {xs:List V} {gs:List (List Int)} (h:LAt Qr H xs gs) (s:Same H H'):LAt Qr H' xs gs:=h.mono fun _ _ ⟨p,e,z⟩=>⟨p,e,s _ _ z⟩
theorem LAt.lstC {H H':Hp} {a:Addr} {xs:List V} {gs:List (List Int)} (h:LAt Qr H xs gs) (c:Chg a H H') (n:¬ V.ref a ∈ xs):LAt Qr H' xs gs :=
 h.monoM fun x hx y ⟨p,e,z⟩=>⟨p,e,c _ _ z (by intro w; subst w; rw [e] at hx; exact n hx)⟩
structure LLat (H:Hp) (l:Addr) (xs:List V) (gs:List (List Int)):Prop where
 li:H l = some (.lst xs)
 at':LAt Qr H xs gs
 nd:xs.Nodup
 no:¬ V.ref l ∈ xs
theorem LAt.lstF {H:Hp} {a:Addr} {xs:List V} {gs:List (List Int)} (h:LAt Qr H xs gs) (ha:H a = none):¬ V.ref a ∈ xs:=fun z=>by
 obtain ⟨i,hi⟩:=List.getElem?_of_mem z
 obtain ⟨g,_,p,e,hp⟩:=h.get hi
 cases e
 rw [ha] at hp; cases hp
theorem LLat.push {H H2 H3 H4:Hp} {l p:Addr} {xs:List V} {gs:List (List Int)} {n:Int} (h:LLat H l xs gs) (hp:H p = none) (s:Same H H2) (c3:Chg l H2 H3) (e3:H3 l = some (.lst (xs ++ [.ref p]))) (c4:Chg p H3 H4) (e4:H4 p = some (.lst ([] ++ [.int n]))) :
  LLat H4 l (xs ++ [.ref p]) (gs ++ [[n]]):=by
 have nlp:l ≠ p:=Bm h.li hp
 have nf:=h.at'.lstF hp
 refine ⟨c4 _ _ e3 nlp,LAt.snoc (((h.at'.lstS s).lstC c3 h.no).lstC c4 nf) ⟨p,rfl,e4⟩,?_,?_⟩
 ·refine List.nodup_append.mpr ⟨h.nd,by simp,fun x hx y hy e=>?_⟩
  rw [e,List.mem_singleton.mp hy] at hx
  exact nf hx
 ·intro z
  rcases List.mem_append.mp z with z | z
  ·exact h.no z
  ·exact nlp (V.ref.inj (List.mem_singleton.mp z))
theorem LLat.add {H H':Hp} {l p:Addr} {xs:List V} {gs:List (List Int)} {g:List Int} {n:Int} (h:LLat H l (xs ++ [.ref p]) (gs ++ [g])) (c:Chg p H H') (e:H' p = some (.lst (g.map V.int ++ [.int n]))):LLat H' l (xs ++ [.ref p]) (gs ++ [g ++ [n]]):=by
 have nlp:l ≠ p:=fun z=>h.no (by rw [z]; exact List.mem_append_right _ List.mem_cons_self)
 obtain ⟨n1,_,n3⟩:=List.nodup_append.mp h.nd
 have np:¬ V.ref p ∈ xs:=fun z=>n3 _ z _ List.mem_cons_self rfl
 have hl:xs.length = gs.length:=by have:=h.at'.1; simpa using this
 have h':LAt Qr H xs gs:=⟨hl,fun i x y e1 e2=>h.at'.2 i x y (by rw [List.getElem?_append_left (List.getElem?_eq_some_iff.mp e1).1]; exact e1) (by rw [List.getElem?_append_left (List.getElem?_eq_some_iff.mp e2).1]; exact e2)⟩
 exact ⟨c _ _ h.li nlp,LAt.snoc (h'.lstC c np) ⟨p,rfl,by rw [List.map_append]; exact e⟩,h.nd,h.no⟩
theorem LLat.last {H:Hp} {l:Addr} {xs:List V} {gs:List (List Int)} (h:LLat H l xs gs) (ne:¬ gs = []):∃ xs' p gs' g,xs = xs' ++ [V.ref p]/\gs = gs' ++ [g]/\H p = some (.lst (g.map V.int)):=by
 rcases List.eq_nil_or_concat gs with e | ⟨gs',g,rfl⟩
 ·exact absurd e ne
 ·rcases List.eq_nil_or_concat xs with e | ⟨xs',x,rfl⟩
  ·have:=h.at'.1; rw [e] at this; simp at this
  ·rw [List.concat_eq_append,List.concat_eq_append] at h
   have hl:xs'.length = gs'.length:=by have:=h.at'.1; simpa using this
   obtain ⟨p,e,hp⟩:=h.at'.2 xs'.length x g (by simp) (by rw [hl]; simp)
   exact ⟨xs',p,gs',g,by rw [List.concat_eq_append,e],List.concat_eq_append,hp⟩
theorem Zf {ts:List Int} {i:Nat} {x:V} (h:(ts.map V.int)[i]? = some x):∃ n,ts[i]? = some n/\x = .int n:=by
 rw [List.getElem?_map] at h
 obtain ⟨n,h1,h2⟩:=Option.map_eq_some_iff.mp h
 exact ⟨n,h1,h2.symm⟩
def opn (J:List Jn):Nat->Int->List Int
 | 0,s=>[s]
 | n + 1,s=>match Ct J s with
  | none=>[s]
  | some m=>opn J n m.1 ++ [m.2]
def opT (J:List Jn) (ts:List Int):List Int:=ts.flatMap (opn J 7)
def EndN (J:List Jn) (n:Nat) (s:Int):Prop:=Ct J (jGo J n s) = none
theorem Oo {J:List Jn} {s:Int} (h:Ct J s = none):∀ n,opn J n s = [s]
 | 0=>rfl
 | n + 1=>by simp [opn,h]
theorem Rq {J:List Jn} {s:Int} {m:Int × Int} (h:Ct J s = some m) (n:Nat):opn J (n + 1) s = opn J n m.1 ++ [m.2]:=by simp [opn,h]
theorem EndN.zero {J:List Jn} {s:Int} (h:EndN J 0 s):Ct J s = none:=h
theorem EndN.step {J:List Jn} {n:Nat} {s:Int} {m:Int × Int} (h:EndN J (n + 1) s) (e:Ct J s = some m):EndN J n m.1:=by
 unfold EndN at h ⊢
 rw [Um] at h
 have:Fa J s = m.1:=by unfold Fa; rw [e]
 rw [this] at h
 exact h
theorem Aet {kk:List (Key × V)} {J:List Jn} (jo:Yr kk J) (s:Int):EndN J 7 s:=by
 unfold EndN
 cases e:Ct J s with
 | some m=>exact jo.en _ (Lc e)
 | none =>
  have:=Uo (J:=J) (n:=s) (k:=0) e 7
  rw [Nat.zero_add] at this
  rw [this]; exact e
theorem Lo (J:List Jn):∀ (n:Nat) (s:Int),(opn J n s).length <= n + 1
 | 0,s=>by simp [opn]
 | n + 1,s=>by
  unfold opn
  split
  ·simp
  ·rename_i m _
   have:=Lo J n m.1
   rw [List.length_append]
   simp; omega
theorem Ju (J:List Jn):∀ ts:List Int,(opT J ts).length <= 8 * ts.length
 | []=>by simp [opT]
 | t :: ts=>by
  have h1:=Lo J 7 t
  have h2:=Ju J ts
  have:opT J (t :: ts) = opn J 7 t ++ opT J ts:=by simp [opT]
  rw [this,List.length_append,List.length_cons]
  omega
theorem Afg (J:List Jn) (ts:List Int) (t:Int):opT J (ts ++ [t]) = opT J ts ++ opn J 7 t:=by simp [opT]
def rkD (U:List Sg):List (Key × PV):=U.map fun s=>(Sum.inl s.1,.int s.2.2)
def ptD (J:List Jn):List (Key × PV):=J.map fun j=>(Sum.inl j.1,.tup [.int j.2.1,.int j.2.2])
theorem Zx {κ:Type} [DecidableEq κ] {kvs:List (κ × PV)} {k:κ} {v:PV} (h:¬ k ∈ kvs.map (·.1)):Ta kvs k v = kvs ++ [(k,v)]:=by
 unfold Ta
 rw [if_neg]
 intro z
 obtain ⟨kv,h1,h2⟩:=List.any_eq_true.mp z
 exact h (List.mem_map.mpr ⟨kv,h1,of_decide_eq_true h2⟩)
theorem Wk {κ:Type} [DecidableEq κ] (x:κ × PV) (r:List (κ × PV)) (k:κ):Gg (x :: r) k = if x.1 = k then some x.2 else Gg r k:=by
 unfold Gg
 rw [List.find?_cons]
 by_cases z:x.1 = k
 ·rw [if_pos z,decide_eq_true z]; rfl
 ·rw [if_neg z,decide_eq_false z]
theorem Tn (U:List Sg) (n:Int):(Gg (rkD U) (.inl n)).getD (.int 0) = .int (Bz U n):=by
 induction U with
 | nil=>rfl
 | cons s r ih =>
  show (Gg ((Sum.inl s.1,PV.int s.2.2) :: rkD r) (Sum.inl n)).getD (.int 0) = _
  rw [Wk]
  have e:Bz (s :: r) n = if s.1 = n then s.2.2 else Bz r n:=by
   unfold Bz
   show Ajh ((Ci ((Sum.inl s.1,V.int s.2.2) :: kR r) (Sum.inl n)).getD (.int 0)) = _
   by_cases z:s.1 = n
   ·rw [if_pos z,Lw (by rw [z])]; rfl
   ·rw [if_neg z,Lr (fun w=>z (Sum.inl.inj w))]
  rw [e]
  by_cases z:s.1 = n
  ·rw [if_pos (by rw [z]),if_pos z]; rfl
  ·rw [if_neg (fun w=>z (Sum.inl.inj w)),if_neg z]; exact ih
theorem Aa4 (J:List Jn) (n:Int):Gg (ptD J) (.inl n) = (Ct J n).map fun m=>.tup [.int m.1,.int m.2]:=by
 induction J with
 | nil=>rfl
 | cons j r ih =>
  show Gg ((Sum.inl j.1,PV.tup [.int j.2.1,.int j.2.2]) :: ptD r) (Sum.inl n) = _
  rw [Wk]
  unfold Ct
  by_cases z:j.1 = n
  ·rw [if_pos (by rw [z]),if_pos z]; rfl
  ·rw [if_neg (fun w=>z (Sum.inl.inj w)),if_neg z]; exact ih
theorem Ud {α:Type} {f:α->Int} {l:List α} {n:Int} {g:α->PV} (h:(Sum.inl n:Key) ∈ (l.map fun s=>((Sum.inl (f s),g s):Key × PV)).map (·.1)):n ∈ l.map f:=by
 rw [List.map_map] at h
 obtain ⟨s,hs,e⟩:=List.mem_map.mp h
 exact List.mem_map.mpr ⟨s,hs,Sum.inl.inj e⟩
theorem AgI {U:List Sg} {k:Nat} {s:Sg} (nd:(U.map (·.1)).Nodup) (hs:U[k]? = some s):Ta (rkD (U.take k)) (.inl s.1) (.int s.2.2) = rkD (U.take (k + 1)):=by
 rw [Zx (kvs:=rkD (U.take k)) (fun z=>Ld (f:=fun s:Sg=>s.1) nd hs (Ud (f:=fun s:Sg=>s.1) z)),Cn hs]
 unfold rkD; rw [List.map_append]; rfl
theorem AhI {J:List Jn} {k:Nat} {s:Jn} (nd:(J.map (·.1)).Nodup) (hs:J[k]? = some s):Ta (ptD (J.take k)) (.inl s.1) (.tup [.int s.2.1,.int s.2.2]) = ptD (J.take (k + 1)):=by
 rw [Zx (kvs:=ptD (J.take k)) (fun z=>Ld (f:=fun s:Jn=>s.1) nd hs (Ud (f:=fun s:Jn=>s.1) z)),Cn hs]
 unfold ptD; rw [List.map_append]; rfl
structure SortOf (rk:Int->Int) (cm dm:List Int):Prop where
 pw:dm.Pairwise fun a b=>rk a <= rk b
 fl:∀ r:Int,(dm.filter fun d=>decide (rk d = r)) = cm.filter fun d=>decide (rk d = r)
theorem SortOf.perm {rk:Int->Int} {cm dm:List Int} (h:SortOf rk cm dm):dm.Perm cm:=by
 rw [List.perm_iff_count]
 intro a
 have e:=congrArg (List.count a) (h.fl (rk a))
 rwa [List.count_filter (by simp),List.count_filter (by simp)] at e
theorem SortOf.len {rk:Int->Int} {cm dm:List Int} (h:SortOf rk cm dm):dm.length = cm.length:=h.perm.length_eq
def Ng (rk:Int->Int) (m:Int):List Int->List Int
 | []=>[m]
 | x :: r=>if rk m < rk x then m :: x :: r else x :: Ng rk m r
def srt (rk:Int->Int) (ms:List Int):List Int:=ms.foldl (fun a m=>Ng rk m a) []
theorem Yi {rk:Int->Int} {m y:Int}:∀ {l:List Int},y ∈ Ng rk m l->y = m\/y ∈ l
 | [],h=>.inl (List.mem_singleton.mp h)
 | x :: r,h=>by
  unfold Ng at h
  split at h
  ·rcases List.mem_cons.mp h with e | e
   ·exact .inl e
   ·exact .inr e
  ·rcases List.mem_cons.mp h with e | e
   ·exact .inr (by rw [e]; exact List.mem_cons_self)
   ·exact (Yi e).imp id (List.mem_cons_of_mem _)
theorem Aa2 {rk:Int->Int} {m:Int}:∀ {l:List Int},l.Pairwise (fun a b=>rk a <= rk b)->(Ng rk m l).Pairwise fun a b=>rk a <= rk b
 | [],_=>List.pairwise_singleton _ _
 | x :: r,h=>by
  obtain ⟨h1,h2⟩:=List.pairwise_cons.mp h
  unfold Ng
  split
  ·rename_i z
   refine List.pairwise_cons.mpr ⟨fun y hy=>?_,h⟩
   rcases List.mem_cons.mp hy with e | e
   ·rw [e]; omega
   ·have:=h1 y e; omega
  ·rename_i z
   refine List.pairwise_cons.mpr ⟨fun y hy=>?_,Aa2 h2⟩
   rcases Yi hy with e | e
   ·rw [e]; omega
   ·exact h1 y e
theorem AaG {rk:Int->Int} {m c:Int}:∀ {l:List Int},l.Pairwise (fun a b=>rk a <= rk b)->(Ng rk m l).filter (fun d=>decide (rk d = c)) = l.filter (fun d=>decide (rk d = c)) ++ [m].filter (fun d=>decide (rk d = c))
 | [],_=>rfl
 | x :: r,h=>by
  obtain ⟨h1,h2⟩:=List.pairwise_cons.mp h
  unfold Ng
  split
  ·rename_i z
   by_cases q:rk m = c
   ·have e:(x :: r).filter (fun d=>decide (rk d = c)) = []:=List.filter_eq_nil_iff.mpr fun y hy=>by
     have:rk x <= rk y:=by
      rcases List.mem_cons.mp hy with e | e
      ·rw [e]; omega
      ·exact h1 y e
     simp; omega
    rw [List.filter_cons,if_pos (by simpa using q),e,List.filter_cons,if_pos (by simpa using q)]
    rfl
   ·rw [List.filter_cons,if_neg (by simpa using q),List.filter_cons (x:=m),if_neg (by simpa using q)]
    simp
  ·rw [List.filter_cons,AaG h2,List.filter_cons (x:=x)]
   split <;> simp
theorem Yq (rk:Int->Int) (ms:List Int) (m:Int):srt rk (ms ++ [m]) = Ng rk m (srt rk ms):=by simp [srt]
theorem Gd (rk:Int->Int) (ms:List Int):SortOf rk ms (srt rk ms):=by
 have key:∀ n,SortOf rk (ms.take n) (srt rk (ms.take n)):=by
  intro n
  induction n with
  | zero=>exact ⟨List.Pairwise.nil,fun r=>rfl⟩
  | succ n ih =>
   by_cases h:n < ms.length
   ·rw [Cn (List.getElem?_eq_getElem h),Yq]
    exact ⟨Aa2 ih.pw,fun r=>by rw [AaG ih.pw,ih.fl,List.filter_append]⟩
   ·rw [List.take_of_length_le (by omega)]
    rw [List.take_of_length_le (by omega)] at ih
    exact ih
 have:=key ms.length
 rwa [List.take_length] at this
theorem Zk {U:List Sg} {M:List (Int × Int)} {J:List Jn} (bk:Fq U M J) {j:Jn} (h:j ∈ J):Bw U M j.2.2 = true/\Bw U M j.2.1 = false/\Bw U M j.1 = false:=by
 have e1:=bk.jo.mr j h
 obtain ⟨k,hk,e2,e3⟩:=bk.jo.kd j h
 unfold knd at e1 e2 e3
 have nk:∀ k ∈ joinedK,¬ k = "mark":=by decide +kernel
 exact ⟨decide_eq_true (Ua e1),decide_eq_false (by rw [Ua e3]; exact nk k hk),decide_eq_false (by rw [Ua e2]; exact nk k hk)⟩
theorem AcR {U:List Sg} {M:List (Int × Int)} {J:List Jn} (bk:Fq U M J):∀ (n:Nat) (s:Int),∃ c cm,opn J n s = c :: cm/\(∀ m ∈ cm,Bw U M m = true)/\(cm = []->c = s/\(0 < n->Ct J s = none))/\(cm ≠ []->Bw U M c = false)
 | 0,s=>⟨s,[],rfl,(fun m h=>by cases h),fun _=>⟨rfl,fun h=>by omega⟩,fun h=>absurd rfl h⟩
 | n + 1,s=>by
  cases e:Ct J s with
  | none=>exact ⟨s,[],by rw [Oo e],(fun m h=>by cases h),fun _=>⟨rfl,fun _=>rfl⟩,fun h=>absurd rfl h⟩
  | some m =>
   obtain ⟨c,cm,e1,h1,h2,h3⟩:=AcR bk n m.1
   obtain ⟨q1,q2,q3⟩:=Zk bk (Lc e)
   refine ⟨c,cm ++ [m.2],by rw [Rq e,e1]; rfl,fun x hx=>?_,fun z=>by simp at z,fun _=>?_⟩
   ·rcases List.mem_append.mp hx with w | w
    ·exact h1 x w
    ·rw [List.mem_singleton.mp w]; exact q1
   ·by_cases z:cm = []
    ·rw [(h2 z).1]; exact q2
    ·exact h3 z
theorem SortOf.uniq {rk:Int->Int} {cm:List Int}:∀ {d1 d2:List Int},(∀ r:Int,(d1.filter fun d=>decide (rk d = r)) = d2.filter fun d=>decide (rk d = r))->d1.Pairwise (fun a b=>rk a <= rk b)->d2.Pairwise (fun a b=>rk a <= rk b)->d1 = d2
 | [],[],_,_,_=>rfl
 | [],b :: l,h,_,_=>by have:=h (rk b); rw [List.filter_cons,if_pos (by simp)] at this; cases this
 | a :: l,[],h,_,_=>by have:=h (rk a); rw [List.filter_cons,if_pos (by simp)] at this; cases this
 | a :: l,b :: k,h,h1,h2=>by
  obtain ⟨p1,q1⟩:=List.pairwise_cons.mp h1
  obtain ⟨p2,q2⟩:=List.pairwise_cons.mp h2
  have ea:a ∈ (b :: k).filter fun d=>decide (rk d = rk a):=by rw [<- h (rk a)]; exact List.mem_filter.mpr ⟨List.mem_cons_self,by simp⟩
  have eb:b ∈ (a :: l).filter fun d=>decide (rk d = rk b):=by rw [h (rk b)]; exact List.mem_filter.mpr ⟨List.mem_cons_self,by simp⟩
  have l1:rk b <= rk a:=by
   rcases List.mem_cons.mp (List.mem_filter.mp ea).1 with e | e
   ·rw [e]; omega
   ·exact p2 a e
  have l2:rk a <= rk b:=by
   rcases List.mem_cons.mp (List.mem_filter.mp eb).1 with e | e
   ·rw [e]; omega
   ·exact p1 b e
  have e:=h (rk a)
  rw [List.filter_cons,if_pos (by simp),List.filter_cons,if_pos (by simp; omega)] at e
  obtain ⟨e1,e2⟩:=List.cons.inj e
  subst e1
  rw [SortOf.uniq (cm:=cm) (fun r=>?_) q1 q2]
  have e3:=h r
  by_cases z:rk a = r
  ·rw [List.filter_cons,if_pos (by simpa using z),List.filter_cons,if_pos (by simpa using z)] at e3
   exact (List.cons.inj e3).2
  ·rw [List.filter_cons,if_neg (by simpa using z),List.filter_cons,if_neg (by simpa using z)] at e3
   exact e3
theorem Ajw {rk:Int->Int} {ms ds:List Int} (h:Rl rk ms ds):ds = srt rk ms:=SortOf.uniq (cm:=ms) (rk:=rk) (fun r=>by rw [h.fl,(Gd rk ms).fl]) h.up (Gd rk ms).pw
theorem AdJ {rk:Int->Int} {ms ds:List Int} (h:ds.Pairwise fun a b=>rk a <= rk b) (f:∀ r:Int,(ds.filter fun d=>decide (rk d = r)) = ms.filter fun d=>decide (rk d = r)):srt rk ms = ds:=SortOf.uniq (cm:=ms) (fun r=>by rw [(Gd rk ms).fl,f]) (Gd rk ms).pw h
theorem srt_mem {rk:Int->Int} {ms:List Int} {m:Int}:m ∈ srt rk ms ↔ m ∈ ms:=(Gd rk ms).perm.mem_iff
theorem Go (rk:Int->Int) (ms:List Int):(srt rk ms).length = ms.length:=(Gd rk ms).len
theorem Acm {rk:Int->Int} {ms ns:List Int} (f:∀ r:Int,(ms.filter fun d=>decide (rk d = r)) = ns.filter fun d=>decide (rk d = r)):srt rk ms = srt rk ns:=AdJ (Gd rk ns).pw fun r=>by rw [(Gd rk ns).fl,f]
theorem AeY {rk:Int->Int} {h:Int} {r:List Int} (l:∀ m ∈ r,rk h <= rk m):srt rk (h :: r) = h :: srt rk r:=by
 refine AdJ (List.pairwise_cons.mpr ⟨fun m hm=>l m (srt_mem.mp hm),(Gd rk r).pw⟩) fun k=>?_
 rw [List.filter_cons,List.filter_cons,(Gd rk r).fl]
theorem AaQ {U:List Sg} {M:List (Int × Int)} {J:List Jn} (b:Fq U M J) {n:Int} (h:Bw U M n = false):Bz U n = 0:=by
 by_cases z:n ∈ U.map (·.1)
 ·obtain ⟨s,hs,rfl⟩:=List.mem_map.mp z
  rw [Wx (List.nodup_append.mp b.nd).1 hs]
  rcases (b.so s hs).rk with ⟨k,_⟩ | ⟨_,r⟩
  ·have:=of_decide_eq_false h
   rw [Ua (AaI b.nd hs)] at this
   exact absurd k this
  ·exact r
 ·exact Aek z
theorem Vz {U:List Sg} {M:List (Int × Int)} {J:List Jn} (b:Fq U M J) {n:Int} (h:Bw U M n = true):1 <= Bz U n:=AgM b (of_decide_eq_true h)
structure GW (mk:Int->Bool) (gs:List (List Int)):Prop where
 ne:∀ g ∈ gs,∃ n r,g = n :: r/\∀ m ∈ r,mk m = true
 hd:∀ (i:Nat) (g:List Int),gs[i]? = some g->0 < i->∃ n r,g = n :: r/\mk n = false
theorem Akb (mk:Int->Bool) (ts:List Int):GW mk (grp mk ts):=⟨(Fw mk ts).ne,(Fw mk ts).hd⟩
theorem Os {mk:Int->Bool} {gs:List (List Int)}:∀ (r:List Int) (g:List Int),(∀ m ∈ r,mk m = true)->r.foldl (Nf mk) (gs ++ [g]) = gs ++ [g ++ r]
 | [],g,_=>by simp
 | m :: r,g,h=>by
  rw [List.foldl_cons,Rb (h m List.mem_cons_self),Os r _ fun x hx=>h x (List.mem_cons_of_mem _ hx)]
  simp
theorem AhP {mk:Int->Bool} {gs:List (List Int)} (w:GW mk gs):grp mk gs.flatten = gs:=by
 have key:∀ n,n <= gs.length->grp mk (gs.take n).flatten = gs.take n:=by
  intro n
  induction n with
  | zero=>intro _; rfl
  | succ n ih =>
   intro hn
   have e:=List.getElem?_eq_getElem (show n < gs.length by omega)
   obtain ⟨h,r,eg,hr⟩:=w.ne _ (List.mem_of_getElem? e)
   rw [Cn e,List.flatten_append]
   unfold grp at ih ⊢
   rw [List.foldl_append,ih (by omega)]
   show List.foldl (Nf mk) (gs.take n) ([gs[n]].flatten) = _
   rw [show [gs[n]].flatten = gs[n] by simp,eg,List.foldl_cons,Ln,Os r [h] hr]
   ·rfl
   ·by_cases z:n = 0
    ·left; rw [z]; rfl
    ·right
     obtain ⟨h',r',eg',q⟩:=w.hd n _ e (by omega)
     rw [eg] at eg'; cases eg'
     exact q
 have:=key gs.length (Nat.le_refl _)
 rwa [List.take_length] at this
theorem GW.map {mk:Int->Bool} {gs:List (List Int)} (w:GW mk gs) {f:List Int->List Int} (h:∀ n r,(∀ m ∈ r,mk m = true)->∃ n' r',f (n :: r) = n' :: r'/\(∀ m ∈ r',mk m = true)/\(mk n = false->mk n' = false)):GW mk (gs.map f):=by
 refine ⟨fun g hg=>?_,fun i g e hi=>?_⟩
 ·obtain ⟨g0,h0,rfl⟩:=List.mem_map.mp hg
  obtain ⟨n,r,rfl,hr⟩:=w.ne g0 h0
  obtain ⟨n',r',e,q,_⟩:=h n r hr
  exact ⟨n',r',e,q⟩
 ·rw [List.getElem?_map] at e
  obtain ⟨g0,e0,rfl⟩:=Option.map_eq_some_iff.mp e
  obtain ⟨n,r,rfl,hr⟩:=w.ne g0 (List.mem_of_getElem? e0)
  obtain ⟨n0,r0,e2,q2⟩:=w.hd i _ e0 hi
  cases e2
  obtain ⟨n',r',e,_,q⟩:=h n r hr
  exact ⟨n',r',e,q q2⟩
theorem AaH {mk:Int->Bool} {ts:List Int} {f:List Int->List Int} (h:∀ n r,(∀ m ∈ r,mk m = true)->∃ n' r',f (n :: r) = n' :: r'/\(∀ m ∈ r',mk m = true)/\(mk n = false->mk n' = false)):grp mk ((grp mk ts).flatMap f) = (grp mk ts).map f:=by
 rw [List.flatMap_def]
 exact AhP ((Akb mk ts).map h)
section
variable {U:List Sg} {M:List (Int × Int)} {J:List Jn}
theorem Yh (bk:Fq U M J) {m:Int} (h:Bw U M m = true) (n:Nat):opn J n m = [m]:=by
 refine Oo ?_ n
 cases e:Ct J m with
 | none=>rfl
 | some p =>
  have:=(Zk bk (Lc e)).2.2
  rw [h] at this; cases this
theorem Wy (bk:Fq U M J):∀ {r:List Int},(∀ m ∈ r,Bw U M m = true)->opT J r = r
 | [],_=>rfl
 | m :: r,h=>by
  show opn J 7 m ++ opT J r = _
  rw [Yh bk (h m List.mem_cons_self),Wy bk fun x hx=>h x (List.mem_cons_of_mem _ hx)]; rfl
theorem AeE (J:List Jn) (t:Int) (ts:List Int):opT J (t :: ts) = opn J 7 t ++ opT J ts:=by simp [opT]
theorem Ri (J:List Jn) (a b:List Int):opT J (a ++ b) = opT J a ++ opT J b:=by simp [opT]
theorem Yt (J:List Jn) (gs:List (List Int)):opT J gs.flatten = (gs.map (opT J)).flatten:=by
 induction gs with
 | nil=>rfl
 | cons g gs ih=>rw [List.flatten_cons,Ri,ih]; rfl
theorem opW (bk:Fq U M J) {n:Int} {r:List Int} (hr:∀ m ∈ r,Bw U M m = true):∃ c cm,opT J (n :: r) = c :: cm/\opT J (n :: r) = opn J 7 n ++ r/\(∀ m ∈ cm,Bw U M m = true)/\Bw U M c = Bw U M n:=by
 obtain ⟨c,cm,e,h1,h2,h3⟩:=AcR bk 7 n
 rw [AeE,Wy bk hr,e]
 refine ⟨c,cm ++ r,rfl,rfl,fun m hm=>?_,?_⟩
 ·rcases List.mem_append.mp hm with z | z
  ·exact h1 m z
  ·exact hr m z
 ·by_cases z:cm = []
  ·rw [(h2 z).1]
  ·rw [h3 z]
   cases w:Bw U M n with
   | false=>rfl
   | true=>rw [Yh bk w] at e; cases e; exact absurd rfl z
def Fy (U:List Sg) (J:List Jn) (w:List Int):List Int:=srt (Bz U) (opT J w)
def lng (U:List Sg) (M:List (Int × Int)) (J:List Jn) (ts:List Int):List Int:=(grp (Bw U M) ts).flatMap (Fy U J)
def Fit (U:List Sg) (M:List (Int × Int)) (J:List Jn) (ts:List Int):Prop:=∀ w ∈ grp (Bw U M) ts,(opT J w).length < 64
def AeZ:PSp:=fun ps P=>∃ U M J ts,ps = [.bk U M J,.lst (List.map .int ts)]/\Fq U M J/\ts.length <= 300/\Fit U M J ts/\P (.lst (List.map .int (lng U M J ts)))
theorem Za (mk:Int->Bool) (ts:List Int) {w:List Int} (h:w ∈ grp mk ts):w.length <= ts.length:=by
 have key:∀ (gs:List (List Int)),w ∈ gs->w.length <= gs.flatten.length:=by
  intro gs
  induction gs with
  | nil=>intro h; cases h
  | cons g gs ih =>
   intro h
   rw [List.flatten_cons,List.length_append]
   rcases List.mem_cons.mp h with e | e
   ·rw [e]; omega
   ·have:=ih e; omega
 have:=key _ h
 rwa [(Fw mk ts).fl] at this
theorem Ahi (bk:Fq U M J) {ts w:List Int} (h:w ∈ grp (Bw U M) ts):(opT J w).length <= ts.length + 7:=by
 obtain ⟨n,r,rfl,hr⟩:=(Fw (Bw U M) ts).ne w h
 obtain ⟨c,cm,_,e,_⟩:=opW bk (n:=n) hr
 have:=Za _ _ h
 have l:=Lo J 7 n
 rw [e,List.length_append]
 rw [List.length_cons] at this
 omega
theorem Fit.of (bk:Fq U M J) {ts:List Int} (h:ts.length <= 56):Fit U M J ts:=fun w hw=>by have:=Ahi bk hw; omega
theorem Ahh (bk:Fq U M J) {n:Int} {r:List Int} (hr:∀ m ∈ r,Bw U M m = true):∃ n' r',Fy U J (n :: r) = n' :: r'/\(∀ m ∈ r',Bw U M m = true)/\Bw U M n' = Bw U M n:=by
 obtain ⟨c,cm,e,_,h1,h2⟩:=opW bk (n:=n) hr
 unfold Fy
 rw [e]
 cases z:Bw U M n with
 | false =>
  rw [z] at h2
  rw [AeY fun m hm=>by rw [AaQ bk h2]; have:=Vz bk (h1 m hm); omega]
  exact ⟨c,_,rfl,fun m hm=>h1 m (srt_mem.mp hm),h2⟩
 | true =>
  rw [z] at h2
  have all:∀ m ∈ srt (Bz U) (c :: cm),Bw U M m = true:=fun m hm=>by
   rcases List.mem_cons.mp (srt_mem.mp hm) with e | e
   ·rw [e]; exact h2
   ·exact h1 m e
  have l:=Go (Bz U) (c :: cm)
  generalize srt (Bz U) (c :: cm) = x at all l
  cases x with
  | nil=>cases l
  | cons n' r'=>exact ⟨n',r',rfl,fun m hm=>all m (List.mem_cons_of_mem _ hm),all n' List.mem_cons_self⟩
theorem Tx (bk:Fq U M J) (ts:List Int):grp (Bw U M) (lng U M J ts) = (grp (Bw U M) ts).map (Fy U J) :=
 AaH fun n r hr=>by
  obtain ⟨n',r',e,h1,h2⟩:=Ahh bk (n:=n) hr
  exact ⟨n',r',e,h1,fun z=>h2.trans z⟩
end
theorem Lj {α:Type} (l:List α) (x:α):L2.atI (l ++ [x]) (-1) = some x:=by
 unfold L2.atI ixN
 rw [if_neg (by omega),if_pos (by simp; omega)]
 show (l ++ [x])[_]? = _
 rw [show (-1 + ((l ++ [x]).length:Int)).toNat = l.length by simp; omega]
 simp
theorem Yl {f:List Int->List Int} {n:Nat}:∀ {gs:List (List Int)},(∀ g ∈ gs,(f g).length <= n)->(gs.flatMap f).length <= n * gs.length
 | [],_=>by simp
 | g :: gs,h=>by
  have h1:=h g List.mem_cons_self
  have h2:=Yl (gs:=gs) fun x hx=>h x (List.mem_cons_of_mem _ hx)
  rw [List.flatMap_cons,List.length_append,List.length_cons,Nat.mul_add]
  omega
theorem Adk {f:List Int->List Int} {gs:List (List Int)} {k:Nat} {g:List Int} (e:gs[k]? = some g):(gs.take (k + 1)).flatMap f = (gs.take k).flatMap f ++ f g:=by
 rw [Cn e,List.flatMap_append]; simp
section
variable {U:List Sg} {M:List (Int × Int)} {J:List Jn}
theorem Vu {f g:List Int->List Int}:∀ {gs:List (List Int)},(∀ w ∈ gs,(f w).length <= (g w).length)->(gs.flatMap f).length <= (gs.flatMap g).length
 | [],_=>Nat.le_refl _
 | w :: gs,h=>by
  rw [List.flatMap_cons,List.flatMap_cons,List.length_append,List.length_append]
  exact Nat.add_le_add (h w List.mem_cons_self) (Vu fun x hx=>h x (List.mem_cons_of_mem _ hx))
theorem Wc (U:List Sg) (M:List (Int × Int)) (J:List Jn) (ts:List Int):(lng U M J ts).length = (opT J ts).length:=by
 have h1:opT J ts = (grp (Bw U M) ts).flatMap (opT J):=by
  rw [List.flatMap_def,<- Yt,(Fw (Bw U M) ts).fl]
 rw [h1]
 apply Nat.le_antisymm
 ·exact Vu fun w _=>by unfold Fy; rw [Go]; exact Nat.le_refl _
 ·exact Vu fun w _=>by unfold Fy; rw [Go]; exact Nat.le_refl _
end
theorem Xs {α:Type} (xs:List α) (lo hi:Option Int):(Ft xs lo hi).length <= xs.length:=by
 unfold Ft; rw [List.length_take,List.length_drop]; omega
theorem Lv {α:Type} {g:α->Int} (l:List α):(l.filterMap fun a=>some (PV.int (g a))) = (l.map g).map PV.int:=by
 induction l with
 | nil=>rfl
 | cons a l ih=>simp [ih]
theorem Ach {α:Type} {g:α->Int} (l:List α):(l.map fun a=>PV.int (g a)) = (l.map g).map PV.int:=by rw [List.map_map]; rfl
section
variable {U:List Sg} {M:List (Int × Int)} {J:List Jn}
theorem AaO (bk:Fq U M J) (ts:List Int):grp (Bw U M) (opT J ts) = (grp (Bw U M) ts).map (opT J):=by
 have h:=AaH (mk:=Bw U M) (ts:=ts) (f:=opT J) fun n r hr=>by
  obtain ⟨c,cm,e,_,h1,h2⟩:=opW bk (n:=n) hr
  exact ⟨c,cm,e,h1,fun z=>h2.trans z⟩
 rwa [List.flatMap_def,<- Yt,(Fw (Bw U M) ts).fl] at h
def rkm (U:List Sg) (n:Int):Bool:=!decide (Bz U n = 0)
theorem AjD (bk:Fq U M J):rkm U = Bw U M:=by
 funext n
 unfold rkm
 cases h:Bw U M n with
 | true=>have:=Vz bk h; rw [decide_eq_false (by omega)]; rfl
 | false=>rw [AaQ bk h]; rfl
end
section
variable {U:List Sg} {M:List (Int × Int)} {J:List Jn}
end
section
variable {U:List Sg} {M:List (Int × Int)} {J:List Jn}
end
theorem Vs {α:Type} (xs:List α) (p:Nat):Ft xs none (some (p:Int)) = xs.take p:=by
 unfold Ft
 rw [HT.sIx_nat,HT.sIx_none]
 simp
theorem Vl {α:Type} (xs:List α) (p:Nat):Ft xs (some (p:Int)) none = xs.drop p:=by
 unfold Ft
 rw [HT.sIx_nat,HT.sIx_none]
 by_cases h:p <= xs.length
 ·rw [Nat.min_eq_left h]
  exact List.take_of_length_le (by rw [List.length_drop]; omega)
 ·rw [Nat.min_eq_right (by omega),List.drop_eq_nil_of_le (by omega)]
  simp; omega
section
variable {U:List Sg} {M:List (Int × Int)} {J:List Jn}
theorem Abb (J:List Jn):∀ (n:Nat) (s:Int),0 < (opn J n s).length
 | 0,s=>by simp [opn]
 | n + 1,s=>by
  unfold opn
  split
  ·simp
  ·simp
end
local macro_rules | `(tactic| walk_at "rd")=>`(tactic| repeat (first
 | with_reducible refine AbC ?_ | with_reducible refine AkV rfl ?_ | with_reducible refine i_c ?_ | with_reducible refine AlP ?_ | with_reducible refine AlB ?_ | with_reducible refine AlF ?_ | with_reducible refine AkC ?_
 | with_reducible refine AgD ?_ | with_reducible refine Agv ?_ | with_reducible refine Agx ?_ | with_reducible refine Agc ?_ | with_reducible refine AlN ?_ | with_reducible refine AjU ?_ | with_reducible refine Akm ?_
 | with_reducible refine i_and ?_ | with_reducible refine AlV ?_ | with_reducible refine Alq ?_ | with_reducible refine Ai1 ?_ | with_reducible refine i_orV ?_ | with_reducible refine Ah5 ?_ | with_reducible refine i_isN ?_ | with_reducible refine i_notN ?_
 | with_reducible refine AlX ?_ | with_reducible refine AjS ?_ | with_reducible refine Akv ?_ | with_reducible refine i_retN ?_ | with_reducible refine AlI ?_ | with_reducible refine Akw ?_ | with_reducible refine AgW ?_
 | with_reducible refine Ai8 (SqT.of (by assumption)) rfl ?_ | with_reducible refine Ahq ?_ | with_reducible refine Aij ?_ | with_reducible refine Aih ?_ | with_reducible refine Ajo ?_ | with_reducible refine i_make ?_
 | with_reducible refine AkA ?_ | with_reducible refine Ah3 ?_ | with_reducible refine i_lst ?_ | with_reducible refine Ak1 ?_ | with_reducible refine Alr ?_ | with_reducible refine AlM ?_ | with_reducible refine Ak2 ?_ | with_reducible refine Ae6 ?_
 | with_reducible refine AiY ?_ | with_reducible refine AgO ?_ | with_reducible refine Ahy ?_ | with_reducible refine AjQ ?_ | with_reducible refine Aj6 ?_ | with_reducible refine i_bm0 ?_ | with_reducible refine AlA ?_
 | with_reducible refine Aim ?_ | with_reducible refine AhX ?_ | with_reducible refine Al3 ?_ | with_reducible refine Afo ?_ | with_reducible refine Ajt ?_ | with_reducible refine Alf ?_ | with_reducible refine i_ifE ?_ | with_reducible refine i_int1 ?_
 | with_reducible refine AiB ?_ | with_reducible refine Ajy ?_
 | with_reducible refine Jr ?_ | with_reducible refine Nd ?_ | with_reducible refine Abi ?_ | with_reducible refine AbB ?_
 | with_reducible refine Aeg ?_ | with_reducible refine Adc ?_ | with_reducible refine Afk ?_ | with_reducible refine AhW (by assumption) ?_ | with_reducible refine AkS (by assumption) ?_
 | with_reducible refine AdY (by assumption) ?_ | with_reducible refine AdY (SqL.of (by assumption)) ?_ | with_reducible refine AiA (by assumption) ?_ | with_reducible refine j_min ?_
 | with_reducible refine Akt (by assumption) ?_ | with_reducible refine j_dnotin (by assumption) ?_ | with_reducible refine AdB (by assumption) ?_ ?_ | with_reducible refine AkD (by assumption) ?_ | with_reducible refine Ah0 (by assumption) ?_
 | with_reducible refine Ako (by assumption) ?_ | with_reducible refine j_append (by assumption) ?_ ?_ | with_reducible refine j_clear (by assumption) ?_
 | walk_at "u" | dsimp only [List.set,List.cons_append,List.nil_append,List.append_nil]))
local macro_rules | `(tactic| walk_at "cs")=>`(tactic| dsimp only [compσ,List.replicate,List.map_cons,List.map_nil,List.getElem?_cons_succ,List.getElem?_cons_zero,Option.join_some,List.cons_append,List.nil_append])
local macro_rules | `(tactic| walk_at "pr")=>`(tactic| repeat (first
 | with_reducible refine AfK ?_ | with_reducible refine AfI rfl rfl ?_ | with_reducible refine Adx rfl ?_ | with_reducible refine p_c ?_ | with_reducible refine Aj3 ?_ | with_reducible refine AhU ?_ | with_reducible refine p_i ?_ | with_reducible refine p_u ?_ | with_reducible refine b_u ?_
 | with_reducible refine Agh ?_ | with_reducible refine Ags ?_ | with_reducible refine Agl ?_ | with_reducible refine Agg ?_ | with_reducible refine Agz ?_ | with_reducible refine p_isN ?_ | with_reducible refine AdE ?_ | with_reducible refine p_b ?_ | with_reducible refine b_b ?_
 | with_reducible refine Aga ?_ | with_reducible refine Ah6 ?_ | with_reducible refine Af5 ?_ | with_reducible refine p_andV ?_ | with_reducible refine p_orV ?_ | with_reducible refine p_notV ?_ | with_reducible refine p_ifE ?_
 | with_reducible refine AdA ?_ | with_reducible refine p_break ?_ | with_reducible refine p_cont ?_ | with_reducible refine p_drop ?_ | with_reducible refine AfA ?_ | with_reducible refine Acc rfl ?_ | with_reducible refine p_retN ?_ | with_reducible refine AeI ?_ | with_reducible refine Agy ?_ | with_reducible refine AdF ?_ | with_reducible refine Agi ?_
 | with_reducible refine AaX ?_ | with_reducible refine Abc ?_ | with_reducible refine p_gPair ?_ | with_reducible refine Agu ?_ | with_reducible refine Ada rfl ?_ | with_reducible refine AaJ ?_ | with_reducible refine Adi ?_
 | with_reducible refine AfJ ?_ | with_reducible refine Adz ?_ | with_reducible refine Agk ?_ | with_reducible refine Afv ?_ | with_reducible refine AfR ?_ | with_reducible refine Afp ?_
 | with_reducible refine Adq ?_ | with_reducible refine Adv ?_ | with_reducible refine b_ix3c ?_ | with_reducible refine Ab8 ?_ | with_reducible refine AdI ?_ | with_reducible refine AcM ?_ | with_reducible refine Aca ?_ | with_reducible refine b_ixjc ?_ | with_reducible refine Ab1 ?_ | with_reducible refine AcV ?_ | with_reducible refine Ac3 ?_
 | with_reducible refine Xt ?_ | with_reducible refine Acj ?_ | with_reducible refine AcW ?_ | with_reducible refine Afr ?_ | with_reducible refine Afq ?_ | with_reducible refine b_slS ?_ | with_reducible refine p_slT ?_ | with_reducible refine Agb ?_ | with_reducible refine AfX ?_ ?_ | with_reducible refine Ago ?_ ?_ | with_reducible refine Af0 ?_ ?_ | with_reducible refine b_mul ?_ ?_ | with_reducible refine AfL ?_ ?_
 | with_reducible refine Ai6 ?_ | with_reducible refine Ab5 ?_ | with_reducible refine b_lenT ?_ | with_reducible refine b_lenS ?_ | with_reducible refine b_min ?_ | with_reducible refine b_max ?_ | with_reducible refine b_intI ?_ | with_reducible refine b_intB ?_ | with_reducible refine Aa6 ?_ | with_reducible refine b_listT ?_ | with_reducible refine b_listS ?_
 | with_reducible refine Af1 rfl ?_ | with_reducible refine Agr rfl ?_ ?_ | with_reducible refine p_clear rfl ?_ | with_reducible refine AfF ?_ | with_reducible refine Afw ?_ | with_reducible refine b_dnotin ?_ | with_reducible refine Ack ?_ | with_reducible refine AaK rfl rfl ?_ | with_reducible refine Aa9 ?_ | with_reducible refine Ab7 rfl ?_ | with_reducible refine AcC rfl ?_ ?_
 | with_reducible refine Agt ?_ | with_reducible refine AfN ?_ | with_reducible refine b_L ?_ | with_reducible refine b_S ?_ | with_reducible refine Act rfl ?_ | with_reducible refine p_uiBs rfl ?_ | with_reducible refine AcP ?_ | with_reducible refine p_for2 ?_ | with_reducible refine Adh ?_ | with_reducible refine AaD ?_ | with_reducible refine AcU ?_
 | with_reducible refine Acu ?_ | with_reducible refine AfV ?_ | with_reducible refine p_eqT ?_ | with_reducible refine p_in ?_ | with_reducible refine Agd ?_ | with_reducible refine Adg ?_ | with_reducible refine AcT ?_ | with_reducible refine b_isII ?_ | with_reducible refine b_isIB ?_ | with_reducible refine b_isSS ?_ | with_reducible refine b_isTT ?_ | with_reducible refine b_isBI ?_ | with_reducible refine b_isBB ?_ | with_reducible refine AhM ?_ ?_ | with_reducible refine b_R2 ?_ ?_ | with_reducible refine b_ixL0 ?_ | with_reducible refine Ake ?_ | with_reducible refine Aj2 ?_ | with_reducible refine p_m2 ?_ | with_reducible refine AjZ ?_ | with_reducible refine pf_dnew ?_
 | with_reducible refine p_callX ?_ | with_reducible refine p_raise ?_ | with_reducible refine p_try ?_ | with_reducible refine p_dropX ?_ | with_reducible refine p_setX ?_ | with_reducible refine p_ifX ?_ | with_reducible refine p_asU ?_ | with_reducible refine b_isX ?_ | with_reducible refine b_isXT ?_ | with_reducible refine p_ch ?_ | with_reducible refine p_last ?_ | with_reducible refine p_link ?_ | with_reducible refine b_abs ?_
 | with_reducible refine AaZ rfl ?_
 | with_reducible refine Jr ?_ | with_reducible refine Nd ?_ | with_reducible refine Abi ?_ | with_reducible refine AbB ?_
 | walk_at "u" | dsimp only [List.set,List.cons_append,List.nil_append,List.append_nil,Qo]))
local macro_rules | `(tactic| walk_at "u")=>`(tactic| first | with_reducible refine Ak4 rfl ?_ | with_reducible refine Ai4 rfl ?_ ?_)
local macro_rules | `(tactic| walk_at "u")=>`(tactic| first | with_reducible refine Alb rfl ?_ | with_reducible refine Ak5 rfl ?_ ?_ | with_reducible refine Ahu ?_ | with_reducible refine Ahf (fun _ _=>?_) ?_ | with_reducible refine Akh ?_ | with_reducible refine b_slSL ?_ (by decide) | with_reducible refine Ajl ?_ (by decide) | with_reducible refine AjV ?_ | with_reducible refine p_compE ?_ | with_reducible refine p_maxD ?_ | with_reducible refine p_minD ?_ | with_reducible refine p_dinT ?_ | with_reducible refine b_dinT ?_ | with_reducible refine p_dgetT ?_ | with_reducible refine p_dputT rfl ?_ | with_reducible refine b_dputT rfl ?_ ?_)
local macro_rules | `(tactic| walk_at "cp")=>`(tactic| dsimp only [compρ,List.replicate,List.map_cons,List.map_nil,List.getElem?_cons_succ,List.getElem?_cons_zero,Option.getD_some,boS,List.cons_append,List.nil_append])
local macro_rules | `(tactic| walk_at "u")=>`(tactic| first | with_reducible refine b_ixL1 ?_ | with_reducible refine b_ixL2 ?_ | with_reducible refine b_ixL3 ?_ | with_reducible refine p_rev ?_ | with_reducible refine b_rev ?_ | with_reducible refine b_LR1 ?_ ?_ | with_reducible refine b_LR2 ?_ ?_ ?_ | with_reducible refine p_for3 ?_ | with_reducible refine b_R3 ?_ ?_ | with_reducible refine p_forV ?_ | with_reducible refine p_idx ?_ | with_reducible refine b_all ?_ | with_reducible refine p_put rfl ?_ | with_reducible refine p_rep ?_ | with_reducible refine b_rep ?_ ?_ | with_reducible refine p_appT ?_ | with_reducible refine p_gLst rfl ?_ | with_reducible refine p_eqO ?_ | with_reducible refine b_lenDT ?_ | with_reducible refine b_dinP ?_ | with_reducible refine b_dputP rfl ?_ ?_ | with_reducible refine p_compT ?_ | with_reducible refine b_Tp ?_ | with_reducible refine b_TpP ?_ | with_reducible refine b_isTP ?_ | with_reducible refine b_lenP ?_ | with_reducible refine Ak7 ?_ | with_reducible refine b_eqB ?_ | with_reducible refine Akl ?_)
local macro_rules | `(tactic| walk_at "sd")=>`(tactic| all_goals try first
 | ((with_reducible show (_:Int) < _); first | decide | omega | (simp only [List.length_map,List.length_replicate,List.length_range,List.length_append,List.length_reverse]; omega))
 | ((with_reducible show Op _ _); exact ⟨by omega,by omega⟩)
 | ((with_reducible show Abq _ _); exact ⟨by decide,by decide,by decide⟩)
 | ((with_reducible show CMul _ _); first | exact .inr ⟨by omega,by omega⟩ | exact .inl ⟨by omega,by omega⟩)
 | ((with_reducible show (_:Nat) < _); first | omega | (simp only [List.length_map,List.length_replicate,List.length_range,List.length_append,List.length_reverse]; omega))
 | ((with_reducible show (_:Nat) <= _); first | omega | (simp only [List.length_map,List.length_replicate,List.length_range,List.length_append,List.length_reverse]; omega))
 | ((with_reducible show (_:Int) <= _/\_); first | omega | (simp only [List.length_map,List.length_replicate,List.length_range,List.length_append,List.length_reverse]; omega)))
local macro_rules | `(tactic| walk_at "u")=>`(tactic| first | with_reducible refine Ajs ?_ | with_reducible refine AlL ?_ | with_reducible refine p_compZ ?_ | with_reducible refine AgL ?_ | with_reducible refine Ae3 ?_ | with_reducible refine p_dget2E ?_ | with_reducible refine b_isD ?_ | with_reducible refine AkF rfl rfl ?_ | with_reducible refine Akn ?_)
local macro_rules | `(tactic| walk_at "px")=>`(tactic| repeat (first
 | with_reducible refine AfI rfl rfl ?_ | with_reducible refine Adx rfl ?_ | with_reducible refine p_c ?_ | with_reducible refine Aj3 ?_ | with_reducible refine AhU ?_ | with_reducible refine p_i ?_ | with_reducible refine p_u ?_ | with_reducible refine b_u ?_
 | with_reducible refine Agh ?_ | with_reducible refine Ags ?_ | with_reducible refine Agl ?_ | with_reducible refine Agg ?_ | with_reducible refine Agz ?_ | with_reducible refine p_isN ?_ | with_reducible refine AdE ?_ | with_reducible refine p_b ?_ | with_reducible refine b_b ?_
 | with_reducible refine Aga ?_ | with_reducible refine Ah6 ?_ | with_reducible refine Af5 ?_ | with_reducible refine p_andV ?_ | with_reducible refine p_orV ?_ | with_reducible refine p_notV ?_ | with_reducible refine p_ifE ?_
 | with_reducible refine AdA ?_ | with_reducible refine p_break ?_ | with_reducible refine p_cont ?_ | with_reducible refine p_drop ?_ | with_reducible refine AfA ?_ | with_reducible refine Acc rfl ?_ | with_reducible refine p_retN ?_ | with_reducible refine AeI ?_ | with_reducible refine Agy ?_ | with_reducible refine AdF ?_ | with_reducible refine Agi ?_
 | with_reducible refine AaX ?_ | with_reducible refine Abc ?_ | with_reducible refine p_gPair ?_ | with_reducible refine Agu ?_ | with_reducible refine Ada rfl ?_ | with_reducible refine AaJ ?_ | with_reducible refine Adi ?_
 | with_reducible refine AfJ ?_ | with_reducible refine Adz ?_ | with_reducible refine Agk ?_ | with_reducible refine Afv ?_ | with_reducible refine AfR ?_ | with_reducible refine Afp ?_
 | with_reducible refine Adq ?_ | with_reducible refine Adv ?_ | with_reducible refine b_ix3c ?_ | with_reducible refine Ab8 ?_ | with_reducible refine AdI ?_ | with_reducible refine AcM ?_ | with_reducible refine Aca ?_ | with_reducible refine b_ixjc ?_ | with_reducible refine Ab1 ?_ | with_reducible refine AcV ?_ | with_reducible refine Ac3 ?_
 | with_reducible refine Xt ?_ | with_reducible refine Acj ?_ | with_reducible refine AcW ?_ | with_reducible refine Afr ?_ | with_reducible refine Afq ?_ | with_reducible refine b_slS ?_ | with_reducible refine p_slT ?_ | with_reducible refine Agb ?_ | with_reducible refine AfX ?_ ?_ | with_reducible refine Ago ?_ ?_ | with_reducible refine Af0 ?_ ?_ | with_reducible refine b_mul ?_ ?_ | with_reducible refine AfL ?_ ?_
 | with_reducible refine Ai6 ?_ | with_reducible refine Ab5 ?_ | with_reducible refine b_lenT ?_ | with_reducible refine b_lenS ?_ | with_reducible refine b_min ?_ | with_reducible refine b_max ?_ | with_reducible refine b_intI ?_ | with_reducible refine b_intB ?_ | with_reducible refine Aa6 ?_ | with_reducible refine b_listT ?_ | with_reducible refine b_listS ?_
 | with_reducible refine Af1 rfl ?_ | with_reducible refine Agr rfl ?_ ?_ | with_reducible refine p_clear rfl ?_ | with_reducible refine AfF ?_ | with_reducible refine Afw ?_ | with_reducible refine b_dnotin ?_ | with_reducible refine Ack ?_ | with_reducible refine AaK rfl rfl ?_ | with_reducible refine Aa9 ?_ | with_reducible refine Ab7 rfl ?_ | with_reducible refine AcC rfl ?_ ?_
 | with_reducible refine Agt ?_ | with_reducible refine AfN ?_ | with_reducible refine b_L ?_ | with_reducible refine b_S ?_ | with_reducible refine Act rfl ?_ | with_reducible refine p_uiBs rfl ?_ | with_reducible refine AcP ?_ | with_reducible refine p_for2 ?_ | with_reducible refine Adh ?_ | with_reducible refine AaD ?_ | with_reducible refine AcU ?_
 | with_reducible refine Acu ?_ | with_reducible refine AfV ?_ | with_reducible refine p_eqT ?_ | with_reducible refine p_in ?_ | with_reducible refine Agd ?_ | with_reducible refine Adg ?_ | with_reducible refine AcT ?_ | with_reducible refine b_isII ?_ | with_reducible refine b_isIB ?_ | with_reducible refine b_isSS ?_ | with_reducible refine b_isTT ?_ | with_reducible refine b_isBI ?_ | with_reducible refine b_isBB ?_ | with_reducible refine AhM ?_ ?_ | with_reducible refine b_R2 ?_ ?_ | with_reducible refine b_ixL0 ?_ | with_reducible refine Ake ?_ | with_reducible refine Aj2 ?_ | with_reducible refine p_m2 ?_ | with_reducible refine AjZ ?_ | with_reducible refine pf_dnew ?_
 | with_reducible refine p_callX ?_ | with_reducible refine p_raise ?_ | with_reducible refine p_try ?_ | with_reducible refine p_dropX ?_ | with_reducible refine p_setX ?_ | with_reducible refine p_ifX ?_ | with_reducible refine p_asU ?_ | with_reducible refine b_isX ?_ | with_reducible refine b_isXT ?_ | with_reducible refine p_ch ?_ | with_reducible refine p_last ?_ | with_reducible refine p_link ?_ | with_reducible refine b_abs ?_
 | with_reducible refine AaZ rfl ?_
 | with_reducible refine Jr ?_ | with_reducible refine Nd ?_ | with_reducible refine Abi ?_ | with_reducible refine AbB ?_
 | walk_at "u" | dsimp only [List.set,List.cons_append,List.nil_append,List.append_nil,Qo]))
section
variable {P:Program} {w:World} {K:PySem.W.Frag} {mg:Str->Option Value} {base:Heap} {t:Adr}
def So:Sp:=fun vs H Q _=>∃ b,vs = [.bl true,b]/\Q .non H
theorem Afd {b:Bool} {z:V} {H:Hp} {Q:VK} {E:XK} (q:Q .non H) (h:b = true):So [.bl b,z] H Q E:=⟨z,by rw [h],q⟩
theorem Ade {z:V} {H:Hp} {Q:VK} {E:XK} (q:Q .non H):So [.bl true,z] H Q E:=⟨z,rfl,q⟩
local macro_rules | `(tactic| walk_at "u")=>`(tactic| with_reducible refine Afd ?_ ?_)
local macro_rules | `(tactic| walk_at "u")=>`(tactic| with_reducible refine Ade ?_)
theorem Lq (T:Txt K mg t):Binds K t.d_qd ["held","words"] []:=T.F_qd.binds (ps:=["held","words"]) fun _ _ _ _ _ _ us hl=>match us,hl with | [_,_],_=>rfl
theorem Jg (T:Txt K mg t):FnOk P w K mg base CX0 1 t.f_qd t.d_qd ["held","words"] (So):=by
 refine T.F_qd.ok Alw (fun vs H Q E h=>?_) (fun cdv A outer s H vs Q E hr h=>?_)
 ·obtain ⟨b,rfl,q⟩:=h
  rfl
 ·obtain ⟨b,rfl,q⟩:=h
  have hu:=Co hr
  have hu64:=hr.units
  refine ⟨_,(Bi (Fj (Zq (Yb (pv 0)))
    Adf
    Dm)),?_⟩
  try dsimp only [Ce,By]
  walk_at "rd"
  exact q
def Zm:Sp:=fun vs H Q _=>∃ n,vs = [.int n]/\Q (.bl true) H
theorem Ahl {n:Int} {H:Hp} {Q:VK} {E:XK} (q:Q (.bl true) H):Zm [.int n] H Q E:=⟨n,rfl,q⟩
local macro_rules | `(tactic| walk_at "u")=>`(tactic| with_reducible refine Ahl ?_)
theorem Aju (T:Txt K mg t):Binds K t.d_qa ["thing"] []:=T.F_qa.binds (ps:=["thing"]) fun _ _ _ _ _ _ us hl=>match us,hl with | [_],_=>rfl
theorem AgA (T:Txt K mg t):FnOk P w K mg base CX0 1 t.f_qa t.d_qa ["thing"] (Zm):=by
 refine T.F_qa.ok AkL (fun vs H Q E h=>?_) (fun cdv A outer s H vs Q E hr h=>?_)
 ·obtain ⟨n,rfl,q⟩:=h
  rfl
 ·obtain ⟨n,rfl,q⟩:=h
  have hu:=Co hr
  have hu64:=hr.units
  refine ⟨_,(Bi (Cc (Ql (Cj (Gn) rfl T.z_isinstance PyProof.Rows.boot_isinstance (Ba (pv 0) (Ba (Ls (v:=.ty "int") rfl T.z_int PyProof.Rows.boot_int rfl) Bc))) (Sx (AjB (Cj (Gn) rfl T.z_isinstance PyProof.Rows.boot_isinstance (Ba (pv 0) (Ba (Ls (v:=.ty "bool") rfl T.z_bool PyProof.Rows.boot_bool rfl) Bc)))))))),?_⟩
  try dsimp only [Ce,By]
  walk_at "rd"
  exact q
def AaL:Sp:=fun vs H Q _=>∃ n,vs = [.int n]/\Q (.bl (decide (0 <= n))) H
theorem AjR {n:Int} {H:Hp} {Q:VK} {E:XK} (q:Q (.bl (decide (0 <= n))) H):AaL [.int n] H Q E:=⟨n,rfl,q⟩
local macro_rules | `(tactic| walk_at "u")=>`(tactic| with_reducible refine AjR ?_)
theorem Xk (T:Txt K mg t):Binds K t.d_qbq ["thing"] []:=T.F_qbq.binds (ps:=["thing"]) fun _ _ _ _ _ _ us hl=>match us,hl with | [_],_=>rfl
theorem Vg (T:Txt K mg t):FnOk P w K mg base CX0 2 t.f_qbq t.d_qbq ["thing"] (AaL):=by
 refine T.F_qbq.ok AjL (fun vs H Q E h=>?_) (fun cdv A outer s H vs Q E hr h=>?_)
 ·obtain ⟨n,rfl,q⟩:=h
  rfl
 ·obtain ⟨n,rfl,q⟩:=h
  have hu:=Co hr
  have hu64:=hr.units
  refine ⟨_,(Bi (Cc (Ql (Bn (AgA T) (hr.mono (by decide)) rfl T.m_qa T.F_qa.kp (Aju T) .nil Bt (Ba (pv 0) Bc)) (Sx (La Agf (pv 0) Bf (Ck _)))))),?_⟩
  try dsimp only [Ce,By]
  walk_at "rd"
  exact q
def Ad2:Sp:=fun vs H Q _=>∃ a xs n,vs = [.ref a,.int n]/\H a = some (.lst xs)/\(∀ x ∈ xs,∃ b ys,x = .ref b/\H b = some (.tup ys)/\((ys.length:Nat):Int) = n)/\Q .non H
theorem Ad8 (T:Txt K mg t):Binds K t.d_qf ["rows","length"] []:=T.F_qf.binds (ps:=["rows","length"]) fun _ _ _ _ _ _ us hl=>match us,hl with | [_,_],_=>rfl
theorem Abx (T:Txt K mg t):FnOk P w K mg base CX0 2 t.f_qf t.d_qf ["rows","length"] (Ad2):=by
 refine T.F_qf.ok sc_qf (fun vs H Q E h=>?_) (fun cdv A outer s H vs Q E hr h=>?_)
 ·obtain ⟨a,xs,n,rfl,hx,hr',q⟩:=h
  rfl
 ·obtain ⟨a,xs,n,rfl,hx,hr',q⟩:=h
  have hu:=Co hr
  have hu64:=hr.units
  refine ⟨_,(Be (Cg (Bn (Jg T) (hr.mono (by decide)) rfl T.m_qd T.F_qd.kp (Lq T) .nil Bt (Ba (Cj (Gn) rfl T.z_isinstance PyProof.Rows.boot_isinstance (Ba (pv 0) (Ba (Ls (v:=.ty "list") rfl T.z_list PyProof.Rows.boot_list rfl) Bc))) (Ba Cr Bc))))
   (Bi (Df PassesOwn.never rfl (Cq (pv 0)) (Br (i:=2) sc_qf.nd rfl (Or.inl rfl))
    (Bi (Cg (Bn (Jg T) (hr.mono (by decide)) rfl T.m_qd T.F_qd.kp (Lq T) .nil Bt (Ba (Ql (Cj (Gn) rfl T.z_isinstance PyProof.Rows.boot_isinstance (Ba (pv 2) (Ba (Ls (v:=.ty "tuple") rfl T.z_tuple PyProof.Rows.boot_tuple rfl) Bc))) (Sx (La Fo (Cj (Fn) rfl T.z_len PySem.boot_len (Ba (pv 2) Bc)) (pv 1) (Ck _)))) (Ba Cr Bc)))))))),?_⟩
  try dsimp only [Ce,By]
  walk_at "rd"
  refine Lz rfl (SqL.of hx) (fun i σ H'=>∃ v,σ = [some (.ref a),some (.int n),v]/\H' = H) ⟨none,rfl,rfl⟩ (fun i σ H' _ ⟨_,_,e⟩=>by subst e; exact SqL.of hx) ?_ ?_
  ·rintro i x σ H' hi ⟨v,rfl,rfl⟩
   obtain ⟨b,ys,rfl,hy,hl⟩:=hr' x (List.mem_of_getElem? hi)
   walk_at "rd"
   ·exact ⟨_,rfl,rfl⟩
   ·exact decide_eq_true hl
  ·rintro σ H' ⟨v,rfl,rfl⟩
   exact q
theorem Ahm {k:Str} (h:k ∈ toldK):inV (V.str k) [V.str "fore",V.str "back",V.str "num",V.str "blank",V.str "mark",V.str "forein",V.str "backin",V.str "out"] = true:=by
 have e:inV (V.str k) (toldK.map V.str) = true:=by
  unfold inV
  rw [List.any_map]
  exact List.any_eq_true.mpr ⟨k,h,by show (k == k) = true; exact beq_self_eq_true k⟩
 exact e
def Aat:Sp:=fun vs H Q _=>∃ k,vs = [.str k]/\k ∈ toldK/\Q (.bl true) H
theorem AiN {k:Str} {H:Hp} {Q:VK} {E:XK} (q:Q (.bl true) H) (h:k ∈ toldK):Aat [.str k] H Q E:=⟨k,rfl,h,q⟩
local macro_rules | `(tactic| walk_at "u")=>`(tactic| with_reducible refine AiN ?_ ?_)
theorem AlT (T:Txt K mg t):Binds K t.d_qh ["thing"] []:=T.F_qh.binds (ps:=["thing"]) fun _ _ _ _ _ _ us hl=>match us,hl with | [_],_=>rfl
theorem Aky (T:Txt K mg t):FnOk P w K mg base CX0 1 t.f_qh t.d_qh ["thing"] (Aat):=by
 refine T.F_qh.ok Alh (fun vs H Q E h=>?_) (fun cdv A outer s H vs Q E hr h=>?_)
 ·obtain ⟨k,rfl,hk,q⟩:=h
  rfl
 ·obtain ⟨k,rfl,hk,q⟩:=h
  have hu:=Co hr
  have hu64:=hr.units
  refine ⟨_,(Bi (Cc (Ql (Cj (Gn) rfl T.z_isinstance PyProof.Rows.boot_isinstance (Ba (pv 0) (Ba (Ls (v:=.ty "str") rfl T.z_str PyProof.Rows.boot_str rfl) Bc))) (Sx (La (Wm) (pv 0) (Vw (v:=.ref t.a_TOLD_KINDS) rfl T.g_TOLD_KINDS rfl) rfl))))),?_⟩
  try dsimp only [Ce,By]
  walk_at "rd"
  refine ⟨_,_,rfl,.inr (T.q_TOLD_KINDS _),rfl,rfl,?_⟩
  rw [show (if false = true then !inV (V.str k) _ else inV (V.str k) [V.str "fore",V.str "back",V.str "num",V.str "blank",V.str "mark",V.str "forein",V.str "backin",V.str "out"]) = true from Ahm hk]
  exact q
def Xd:Sp:=fun vs H Q _=>∃ k r,vs = [.str k,.int r]/\Uz k r/\Q (.bl true) H
theorem AeA {k:Str} {r:Int} {H:Hp} {Q:VK} {E:XK} (q:Q (.bl true) H) (h:Uz k r):Xd [.str k,.int r] H Q E:=⟨k,r,rfl,h,q⟩
local macro_rules | `(tactic| walk_at "u")=>`(tactic| with_reducible refine AeA ?_ ?_)
theorem AlG (T:Txt K mg t):Binds K t.d_qo ["kind","thing"] []:=T.F_qo.binds (ps:=["kind","thing"]) fun _ _ _ _ _ _ us hl=>match us,hl with | [_,_],_=>rfl
theorem Alp (T:Txt K mg t):FnOk P w K mg base CX0 2 t.f_qo t.d_qo ["kind","thing"] (Xd):=by
 refine T.F_qo.ok Alt (fun vs H Q E h=>?_) (fun cdv A outer s H vs Q E hr h=>?_)
 ·obtain ⟨k,r,rfl,hk,q⟩:=h
  rfl
 ·obtain ⟨k,r,rfl,hk,q⟩:=h
  have hu:=Co hr
  have hu64:=hr.units
  refine ⟨_,(Be (Fj (Zq (Yb (Bn (AgA T) (hr.mono (by decide)) rfl T.m_qa T.F_qa.kp (Aju T) .nil Bt (Ba (pv 1) Bc))))
    (Bi (Cc Tu))
    Dm)
   (Be (Fj (Cl Fo (pv 0) Cr (Ck _))
    (Bi (Cc (La Agf (pv 1) Bf (Ck _))))
    Dm)
   (Bi (Cc (La Fo (pv 1) Bf (Ck _)))))),?_⟩
  try dsimp only [Ce,By]
  walk_at "rd"
  refine Fi (fun h=>?_) (fun h=>?_)
  ·have h':k = "mark":=of_decide_eq_true h
   walk_at "rd"
   rcases hk with ⟨_,hr1⟩ | ⟨hn,_⟩
   ·rw [decide_eq_true hr1]; exact q
   ·exact absurd h' hn
  ·have h':¬ k = "mark":=fun z=>h (decide_eq_true z)
   walk_at "rd"
   rcases hk with ⟨hm,_⟩ | ⟨_,hr0⟩
   ·exact absurd hm h'
   ·rw [decide_eq_true hr0]; exact q
def Xu:Sp:=fun vs H Q _=>∃ d kvs n,vs = [.ref d,.int n]/\H d = some (.dK kvs)/\Q ((Ci kvs (.inl n)).getD (.str "plain")) H
theorem AgV {d:Addr} {kvs:List (Key × V)} {n:Int} {H:Hp} {Q:VK} {E:XK} (h:H d = some (.dK kvs)) (q:Q ((Ci kvs (.inl n)).getD (.str "plain")) H):Xu [.ref d,.int n] H Q E:=⟨d,kvs,n,rfl,h,q⟩
local macro_rules | `(tactic| walk_at "u")=>`(tactic| with_reducible refine AgV (by assumption) ?_)
theorem Abo (T:Txt K mg t):Binds K t.d_qp ["kinds","sign"] []:=T.F_qp.binds (ps:=["kinds","sign"]) fun _ _ _ _ _ _ us hl=>match us,hl with | [_,_],_=>rfl
theorem Xl (T:Txt K mg t):FnOk P w K mg base CX0 1 t.f_qp t.d_qp ["kinds","sign"] (Xu):=by
 refine T.F_qp.ok Ak6 (fun vs H Q E h=>?_) (fun cdv A outer s H vs Q E hr h=>?_)
 ·obtain ⟨d,kvs,n,rfl,hd,q⟩:=h
  rfl
 ·obtain ⟨d,kvs,n,rfl,hd,q⟩:=h
  have hu:=Co hr
  have hu64:=hr.units
  refine ⟨_,(Bi (Cc (Js hu (pv 0) (pv 1) Cr ⟨rfl,rfl,rfl,rfl⟩))),?_⟩
  try dsimp only [Ce,By]
  walk_at "rd"
  exact q
def Ab6:Sp:=fun vs H Q _=>∃ d kvs n k,vs = [.ref d,.int n,.str k]/\H d = some (.dK kvs)/\0 <= n/\Ci kvs (Sum.inl n) = none/\kvs.length <= 1000/\Q .non (upd H d (.dK (Gr kvs (Sum.inl n) (.str k))))
theorem Akp {d:Addr} {kvs:List (Key × V)} {n:Int} {k:Str} {H:Hp} {Q:VK} {E:XK} (h:H d = some (.dK kvs)) (q:Q .non (upd H d (.dK (kvs ++ [(Sum.inl n,.str k)])))) (hn:0 <= n) (hv:Ci kvs (Sum.inl n) = none) (hl:kvs.length <= 1000) :
  Ab6 [.ref d,.int n,.str k] H Q E:=⟨d,kvs,n,k,rfl,h,hn,hv,hl,by rw [Lh _ hv]; exact q⟩
local macro_rules | `(tactic| walk_at "u")=>`(tactic| with_reducible refine Akp (by assumption) ?_ ?_ ?_ ?_)
theorem Abk (T:Txt K mg t):Binds K t.d_qbn ["kinds","sign","kind"] []:=T.F_qbn.binds (ps:=["kinds","sign","kind"]) fun _ _ _ _ _ _ us hl=>match us,hl with | [_,_,_],_=>rfl
theorem Zr (T:Txt K mg t):FnOk P w K mg base CX0 3 t.f_qbn t.d_qbn ["kinds","sign","kind"] (Ab6):=by
 refine T.F_qbn.ok AiJ (fun vs H Q E h=>?_) (fun cdv A outer s H vs Q E hr h=>?_)
 ·obtain ⟨d,kvs,n,k,rfl,hd,hn,hv,hl,q⟩:=h
  rfl
 ·obtain ⟨d,kvs,n,k,rfl,hd,hn,hv,hl,q⟩:=h
  have hu:=Co hr
  have hu64:=hr.units
  refine ⟨_,(Be (Cg (Bn (Jg T) (hr.mono (by decide)) rfl T.m_qd T.F_qd.kp (Lq T) .nil Bt (Ba (Bn (Vg T) (hr.mono (by decide)) rfl T.m_qbq T.F_qbq.kp (Xk T) .nil Bt (Ba (pv 1) Bc)) (Ba Cr Bc))))
   (Be (Cg (Bn (Jg T) (hr.mono (by decide)) rfl T.m_qd T.F_qd.kp (Lq T) .nil Bt (Ba (Vj (Ox hu (pv 1) (pv 0))) (Ba Cr Bc))))
   (Bi (Jw hu (pv 0) (pv 1) (pv 2) rfl)))),?_⟩
  try dsimp only [Ce,By]
  walk_at "rd"
  ·exact q
  ·exact Dn hl
  ·rw [hv]; rfl
  ·exact decide_eq_true hn
def Ae4:Sp:=fun vs H Q _=>∃ a b xs ys signs mates,vs = [.ref a,.ref b]/\H a = some (.lst xs)/\H b = some (.lst ys)/\LAt TripAt H xs signs/\LAt PairAt H ys mates/\(∀ s ∈ signs,Xj s)/\(∀ m ∈ mates,0 <= m.1/\0 <= m.2) /\
 (signs.map (·.1) ++ ends mates).Nodup/\signs.length + 2 * mates.length <= 900/\∀ d,H d = none->Q (.ref d) (upd H d (.dK (kK signs ++ kM mates)))
theorem Alz (T:Txt K mg t):Binds K t.d_qq ["signs","mates"] []:=T.F_qq.binds (ps:=["signs","mates"]) fun _ _ _ _ _ _ us hl=>match us,hl with | [_,_],_=>rfl
theorem AkN (T:Txt K mg t):FnOk P w K mg base CX0 4 t.f_qq t.d_qq ["signs","mates"] (Ae4):=by
 refine T.F_qq.ok sc_qq (fun vs H Q E h=>?_) (fun cdv A outer s H vs Q E hr h=>?_)
 ·obtain ⟨a,b,xs,ys,signs,mates,rfl,ha,hb,ls,lm,so,mo,nd,hl,q⟩:=h
  rfl
 ·obtain ⟨a,b,xs,ys,signs,mates,rfl,ha,hb,ls,lm,so,mo,nd,hl,q⟩:=h
  have hu:=Co hr
  have hu64:=hr.units
  refine ⟨_,(Be (Bs (i:=2) sc_qq.nd rfl (Or.inl rfl) Ll)
   (Be (Df PassesOwn.never rfl (Cq (pv 0)) (Oj rfl (Cm (Br (i:=3) sc_qq.nd rfl (Or.inl rfl)) (Cm (Br (i:=4) sc_qq.nd rfl (Or.inl rfl)) (Cm (Br (i:=5) sc_qq.nd rfl (Or.inl rfl)) Gi))))
    (Be (Cg (Bn (Jg T) (hr.mono (by decide)) rfl T.m_qd T.F_qd.kp (Lq T) .nil Bt (Ba (Bn (Aky T) (hr.mono (by decide)) rfl T.m_qh T.F_qh.kp (AlT T) .nil Bt (Ba (pv 4) Bc)) (Ba Cr Bc))))
   (Be (Cg (Bn (Jg T) (hr.mono (by decide)) rfl T.m_qd T.F_qd.kp (Lq T) .nil Bt (Ba (Bn (Alp T) (hr.mono (by decide)) rfl T.m_qo T.F_qo.kp (AlG T) .nil Bt (Ba (pv 4) (Ba (pv 5) Bc))) (Ba Cr Bc))))
   (Bi (Cg (Bn (Zr T) (hr.mono (by decide)) rfl T.m_qbn T.F_qbn.kp (Abk T) .nil Bt (Ba (pv 2) (Ba (pv 3) (Ba (pv 4) Bc)))))))))
   (Be (Df PassesOwn.never rfl (Cq (pv 1)) (Oj rfl (Cm (Br (i:=6) sc_qq.nd rfl (Or.inl rfl)) (Cm (Br (i:=7) sc_qq.nd rfl (Or.inl rfl)) Gi)))
    (Be (Cg (Bn (Zr T) (hr.mono (by decide)) rfl T.m_qbn T.F_qbn.kp (Abk T) .nil Bt (Ba (pv 2) (Ba (pv 6) (Ba Cr Bc)))))
   (Bi (Cg (Bn (Zr T) (hr.mono (by decide)) rfl T.m_qbn T.F_qbn.kp (Abk T) .nil Bt (Ba (pv 2) (Ba (pv 7) (Ba Cr Bc))))))))
   (Bi (Cc (pv 2)))))),?_⟩
  try dsimp only [Ce,By]
  walk_at "rd"
  intro d hd
  walk_at "rd"
  have nda:a ≠ d:=Bm ha hd
  have ndb:b ≠ d:=Bm hb hd
  have ndk:((kK signs ++ kM mates).map (·.1)).Nodup:=by rw [List.map_append,Aaq,show (kK signs).map (·.1) = (signs.map (·.1)).map Sum.inl by simp [kK],<- List.map_append]; exact Nc nd
  refine Lz rfl (SqL.of (xs:=xs) (by rw [Bg nda]; exact ha)) (fun i σ H'=>∃ v3 v4 v5,σ = [some (.ref a),some (.ref b),some (.ref d),v3,v4,v5,none,none]/\H' = upd H d (.dK (kK (signs.take i)))) ⟨none,none,none,rfl,rfl⟩ (fun i σ H' _ ⟨_,_,_,_,e⟩=>by subst e; exact SqL.of (by rw [Bg nda]; exact ha)) ?_ ?_
  ·rintro i x σ H' hi ⟨v3,v4,v5,rfl,rfl⟩
   obtain ⟨s,es,p,rfl,hp⟩:=ls.get hi
   have hp':(upd H d (.dK (kK (signs.take i)))) p = some (.tup [.int s.1,.str s.2.1,.int s.2.2]):=by rw [Bg (Bm hp hd)]; exact hp
   have hd':(upd H d (.dK (kK (signs.take i)))) d = some (.dK (kK (signs.take i))):=Bl
   have ok:=so s (List.mem_of_getElem? es)
   have et:=Cn es
   have hlt:i < signs.length:=(List.getElem?_eq_some_iff.mp es).1
   walk_at "rd"
   ·refine ⟨_,_,_,rfl,?_⟩
    rw [Gh,et]
    simp [kK]
   ·exact ok.nn
   ·refine Jx fun m=>?_
    have q1:(kK signs ++ kM mates) = kK (signs.take i) ++ ((Sum.inl s.1,V.str s.2.1) :: (kK (signs.drop (i + 1)) ++ kM mates)):=by
     rw [<- List.cons_append,<- List.append_assoc]
     congr 1
     rw [show ((Sum.inl s.1,V.str s.2.1) :: kK (signs.drop (i + 1)):List (Key × V)) = kK (s :: signs.drop (i + 1)) from rfl,kK,kK,kK,<- List.map_append]
     congr 1
     rw [<- List.take_append_drop i signs]
     congr 1
     ·simp
     ·rw [List.take_append_drop,List.drop_eq_getElem_cons hlt]
      have:=List.getElem?_eq_getElem hlt
      rw [es] at this
      rw [Option.some.inj this]
    rw [q1,List.map_append,List.map_cons] at ndk
    exact (List.nodup_append.mp ndk).2.2 _ m _ List.mem_cons_self rfl
   ·have:(kK (signs.take i)).length <= signs.length:=by simp [kK]; omega
    omega
   ·exact ok.rk
   ·exact ok.kd
  ·rintro σ H' ⟨v3,v4,v5,rfl,rfl⟩
   rw [ls.1,List.take_length]
   refine AbC ?_
   refine Lz rfl (SqL.of (xs:=ys) (by rw [Bg ndb]; exact hb)) (fun i σ H'=>∃ v3 v4 v5 v6 v7,σ = [some (.ref a),some (.ref b),some (.ref d),v3,v4,v5,v6,v7]/\H' = upd H d (.dK (kK signs ++ kM (mates.take i)))) ⟨_,_,_,_,_,rfl,by simp [kM]⟩ (fun i σ H' _ ⟨_,_,_,_,_,_,e⟩=>by subst e; exact SqL.of (by rw [Bg ndb]; exact hb)) ?_ ?_
   ·rintro i x σ H' hi ⟨v3,v4,v5,v6,v7,rfl,rfl⟩
    obtain ⟨m,em,p,rfl,hp⟩:=lm.get hi
    have hp':(upd H d (.dK (kK signs ++ kM (mates.take i)))) p = some (.tup [.int m.1,.int m.2]):=by rw [Bg (Bm hp hd)]; exact hp
    have hd':(upd H d (.dK (kK signs ++ kM (mates.take i)))) d = some (.dK (kK signs ++ kM (mates.take i))):=Bl
    have ok:=mo m (List.mem_of_getElem? em)
    have et:=Cn em
    have hlt:i < mates.length:=(List.getElem?_eq_some_iff.mp em).1
    have q1:kK signs ++ kM mates = kK signs ++ kM (mates.take i) ++ ((Sum.inl m.1,V.str "open") :: (Sum.inl m.2,V.str "shut") :: kM (mates.drop (i + 1))):=by
     rw [List.append_assoc]
     congr 1
     rw [show ((Sum.inl m.1,V.str "open") :: (Sum.inl m.2,V.str "shut") :: kM (mates.drop (i + 1)):List (Key × V)) = kM (m :: mates.drop (i + 1)) from rfl,<- Wl]
     congr 1
     have:=List.getElem?_eq_getElem hlt
     rw [em] at this
     rw [Option.some.inj this,<- List.drop_eq_getElem_cons hlt,List.take_append_drop]
    rw [q1,List.map_append,List.map_cons,List.map_cons] at ndk
    have nd1:=(List.nodup_append.mp ndk).2.2
    have nd2:=(List.nodup_append.mp ndk).2.1
    have hlen:(kK signs ++ kM (mates.take i)).length + 1 <= 1000:=by
     rw [List.length_append,Ajn,List.length_take]; simp only [kK,List.length_map]; omega
    walk_at "rd"
    have hd2:(upd (upd H d (.dK (kK signs ++ kM (mates.take i)))) d (.dK (kK signs ++ kM (mates.take i) ++ [(Sum.inl m.1,.str "open")]))) d = some (.dK (kK signs ++ kM (mates.take i) ++ [(Sum.inl m.1,.str "open")])):=Bl
    walk_at "rd"
    ·refine ⟨_,_,_,_,_,rfl,?_⟩
     rw [Gh,Gh,et,Wl]
     simp [kM]
    ·exact ok.2
    ·refine Jx fun z=>?_
     rw [List.map_append,List.mem_append] at z
     rcases z with z | z
     ·exact nd1 _ z _ (List.mem_cons_of_mem _ List.mem_cons_self) rfl
     ·have e:(Sum.inl m.2:Key) = Sum.inl m.1:=List.mem_singleton.mp z
      have nd3:=(List.nodup_cons.mp nd2).1
      exact nd3 (List.mem_cons.mpr (.inl e.symm))
    ·rw [List.length_append]; exact hlen
    ·exact ok.1
    ·exact Jx fun z=>nd1 _ z _ List.mem_cons_self rfl
    ·omega
   ·rintro σ H' ⟨v3,v4,v5,v6,v7,rfl,rfl⟩
    rw [lm.1,List.take_length]
    walk_at "rd"
    exact q d hd
def Ad6:Sp:=fun vs H Q _=>∃ a xs signs,vs = [.ref a]/\H a = some (.lst xs)/\LAt TripAt H xs signs/\(signs.map (·.1)).Nodup/\signs.length <= 900/\∀ d,H d = none->Q (.ref d) (upd H d (.dK (kR signs)))
theorem AlJ (T:Txt K mg t):Binds K t.d_qu ["signs"] []:=T.F_qu.binds (ps:=["signs"]) fun _ _ _ _ _ _ us hl=>match us,hl with | [_],_=>rfl
theorem Aln (T:Txt K mg t):FnOk P w K mg base CX0 1 t.f_qu t.d_qu ["signs"] (Ad6):=by
 refine T.F_qu.ok sc_qu (fun vs H Q E h=>?_) (fun cdv A outer s H vs Q E hr h=>?_)
 ·obtain ⟨a,xs,signs,rfl,ha,ls,nd,hl,q⟩:=h
  rfl
 ·obtain ⟨a,xs,signs,rfl,ha,ls,nd,hl,q⟩:=h
  have hu:=Co hr
  have hu64:=hr.units
  refine ⟨_,(Be (Bs (i:=1) sc_qu.nd rfl (Or.inl rfl) Ll)
   (Be (Df PassesOwn.never rfl (Cq (pv 0)) (Oj rfl (Cm (Br (i:=2) sc_qu.nd rfl (Or.inl rfl)) (Cm (Br (i:=3) sc_qu.nd rfl (Or.inl rfl)) (Cm (Br (i:=4) sc_qu.nd rfl (Or.inl rfl)) Gi))))
    (Bi (Jw hu (pv 1) (pv 2) (pv 4) rfl)))
   (Bi (Cc (pv 1))))),?_⟩
  try dsimp only [Ce,By]
  walk_at "rd"
  intro d hd
  walk_at "rd"
  have nda:a ≠ d:=Bm ha hd
  have ndk:((kR signs).map (·.1)).Nodup:=by rw [show (kR signs).map (·.1) = (signs.map (·.1)).map Sum.inl by simp [kR]]; exact Nc nd
  refine Lz rfl (SqL.of (xs:=xs) (by rw [Bg nda]; exact ha)) (fun i σ H'=>∃ v3 v4 v5,σ = [some (.ref a),some (.ref d),v3,v4,v5]/\H' = upd H d (.dK (kR (signs.take i)))) ⟨none,none,none,rfl,rfl⟩ (fun i σ H' _ ⟨_,_,_,_,e⟩=>by subst e; exact SqL.of (by rw [Bg nda]; exact ha)) ?_ ?_
  ·rintro i x σ H' hi ⟨v3,v4,v5,rfl,rfl⟩
   obtain ⟨s,es,p,rfl,hp⟩:=ls.get hi
   have hp':(upd H d (.dK (kR (signs.take i)))) p = some (.tup [.int s.1,.str s.2.1,.int s.2.2]):=by rw [Bg (Bm hp hd)]; exact hp
   have hd':(upd H d (.dK (kR (signs.take i)))) d = some (.dK (kR (signs.take i))):=Bl
   have et:=Cn es
   have hlt:i < signs.length:=(List.getElem?_eq_some_iff.mp es).1
   have hno:Ci (kR (signs.take i)) (Sum.inl s.1) = none:=by
    refine Jx fun m=>?_
    have q1:kR signs = kR (signs.take i) ++ ((Sum.inl s.1,V.int s.2.2) :: kR (signs.drop (i + 1))):=by
     rw [show ((Sum.inl s.1,V.int s.2.2) :: kR (signs.drop (i + 1)):List (Key × V)) = kR (s :: signs.drop (i + 1)) from rfl,kR,kR,kR,<- List.map_append]
     congr 1
     have:=List.getElem?_eq_getElem hlt
     rw [es] at this
     rw [Option.some.inj this,<- List.drop_eq_getElem_cons hlt,List.take_append_drop]
    rw [q1,List.map_append,List.map_cons] at ndk
    exact (List.nodup_append.mp ndk).2.2 _ m _ List.mem_cons_self rfl
   walk_at "rd"
   ·refine ⟨_,_,_,rfl,?_⟩
    rw [Gh,et,Lh _ hno]
    simp [kR]
   ·have:(kR (signs.take i)).length <= signs.length:=by simp [kR]; omega
    exact Dn (by omega)
  ·rintro σ H' ⟨v3,v4,v5,rfl,rfl⟩
   rw [ls.1,List.take_length]
   walk_at "rd"
   exact q d hd
def AgZ:Sp:=fun vs H Q _=>∃ b ys mates,vs = [.ref b]/\H b = some (.lst ys)/\LAt PairAt H ys mates/\(ends mates).Nodup/\mates.length <= 400/\∀ d,H d = none->Q (.ref d) (upd H d (.dK (kB mates)))
theorem AlO (T:Txt K mg t):Binds K t.d_qz ["mates"] []:=T.F_qz.binds (ps:=["mates"]) fun _ _ _ _ _ _ us hl=>match us,hl with | [_],_=>rfl
theorem Ak3 (T:Txt K mg t):FnOk P w K mg base CX0 1 t.f_qz t.d_qz ["mates"] (AgZ):=by
 refine T.F_qz.ok sc_qz (fun vs H Q E h=>?_) (fun cdv A outer s H vs Q E hr h=>?_)
 ·obtain ⟨b,ys,mates,rfl,hb,lm,nd,hl,q⟩:=h
  rfl
 ·obtain ⟨b,ys,mates,rfl,hb,lm,nd,hl,q⟩:=h
  have hu:=Co hr
  have hu64:=hr.units
  refine ⟨_,(Be (Bs (i:=1) sc_qz.nd rfl (Or.inl rfl) Ll)
   (Be (Df PassesOwn.never rfl (Cq (pv 0)) (Oj rfl (Cm (Br (i:=2) sc_qz.nd rfl (Or.inl rfl)) (Cm (Br (i:=3) sc_qz.nd rfl (Or.inl rfl)) Gi)))
    (Be (Jw hu (pv 1) (pv 2) (pv 3) rfl)
   (Bi (Jw hu (pv 1) (pv 3) (pv 2) rfl))))
   (Bi (Cc (pv 1))))),?_⟩
  try dsimp only [Ce,By]
  walk_at "rd"
  intro d hd
  walk_at "rd"
  have ndb:b ≠ d:=Bm hb hd
  have ndk:((kB mates).map (·.1)).Nodup:=by rw [AgY]; exact Nc nd
  refine Lz rfl (SqL.of (xs:=ys) (by rw [Bg ndb]; exact hb)) (fun i σ H'=>∃ v3 v4,σ = [some (.ref b),some (.ref d),v3,v4]/\H' = upd H d (.dK (kB (mates.take i)))) ⟨none,none,rfl,rfl⟩ (fun i σ H' _ ⟨_,_,_,e⟩=>by subst e; exact SqL.of (by rw [Bg ndb]; exact hb)) ?_ ?_
  ·rintro i x σ H' hi ⟨v3,v4,rfl,rfl⟩
   obtain ⟨m,em,p,rfl,hp⟩:=lm.get hi
   have hp':(upd H d (.dK (kB (mates.take i)))) p = some (.tup [.int m.1,.int m.2]):=by rw [Bg (Bm hp hd)]; exact hp
   have hd':(upd H d (.dK (kB (mates.take i)))) d = some (.dK (kB (mates.take i))):=Bl
   have et:=Cn em
   have hlt:i < mates.length:=(List.getElem?_eq_some_iff.mp em).1
   have q1:kB mates = kB (mates.take i) ++ ((Sum.inl m.1,V.int m.2) :: (Sum.inl m.2,V.int m.1) :: kB (mates.drop (i + 1))):=by
    rw [show ((Sum.inl m.1,V.int m.2) :: (Sum.inl m.2,V.int m.1) :: kB (mates.drop (i + 1)):List (Key × V)) = kB (m :: mates.drop (i + 1)) from rfl,<- Wq]
    congr 1
    have:=List.getElem?_eq_getElem hlt
    rw [em] at this
    rw [Option.some.inj this,<- List.drop_eq_getElem_cons hlt,List.take_append_drop]
   rw [q1,List.map_append,List.map_cons,List.map_cons] at ndk
   have nd1:=(List.nodup_append.mp ndk).2.2
   have nd2:=(List.nodup_append.mp ndk).2.1
   have hlen:(kB (mates.take i)).length + 1 <= 1000:=by
    rw [Aj4,List.length_take]; omega
   have n1:Ci (kB (mates.take i)) (Sum.inl m.1) = none:=Jx fun z=>nd1 _ z _ List.mem_cons_self rfl
   have n2:Ci (kB (mates.take i) ++ [(Sum.inl m.1,V.int m.2)]) (Sum.inl m.2) = none:=by
    refine Jx fun z=>?_
    rw [List.map_append,List.mem_append] at z
    rcases z with z | z
    ·exact nd1 _ z _ (List.mem_cons_of_mem _ List.mem_cons_self) rfl
    ·have e:(Sum.inl m.2:Key) = Sum.inl m.1:=List.mem_singleton.mp z
     have nd3:=(List.nodup_cons.mp nd2).1
     exact nd3 (List.mem_cons.mpr (.inl e.symm))
   walk_at "rd"
   ·rw [Lh _ n1]
    have hd2:(upd (upd H d (.dK (kB (mates.take i)))) d (.dK (kB (mates.take i) ++ [(Sum.inl m.1,.int m.2)]))) d = some (.dK (kB (mates.take i) ++ [(Sum.inl m.1,.int m.2)])):=Bl
    walk_at "rd"
    ·refine ⟨_,_,rfl,?_⟩
     rw [Gh,Gh,et,Wq,Lh _ n2]
     simp [kB]
    ·rw [List.length_append]; exact Dn hlen
   ·exact Dn (by omega)
  ·rintro σ H' ⟨v3,v4,rfl,rfl⟩
   rw [lm.1,List.take_length]
   walk_at "rd"
   exact q d hd
theorem AdO {k:Str} (h:k ∈ joinedK):inV (V.str k) [V.str "fore",V.str "back",V.str "num",V.str "blank",V.str "plain"] = true:=by
 have e:inV (V.str k) (joinedK.map V.str) = true:=by
  unfold inV
  rw [List.any_map]
  exact List.any_eq_true.mpr ⟨k,h,by show (k == k) = true; exact beq_self_eq_true k⟩
 exact e
def AgX:Sp:=fun vs H Q _=>∃ d kk w b m k,vs = [.ref d,.int w,.int b,.int m]/\H d = some (.dK kk)/\0 <= w/\0 <= b/\0 <= m/\knd kk m = .str "mark"/\k ∈ joinedK/\knd kk w = .str k/\knd kk b = .str k/\Q .non H
theorem Al0 (T:Txt K mg t):Binds K t.d_qn ["kinds","whole","base","mark"] []:=T.F_qn.binds (ps:=["kinds","whole","base","mark"]) fun _ _ _ _ _ _ us hl=>match us,hl with | [_,_,_,_],_=>rfl
theorem AkX (T:Txt K mg t):FnOk P w K mg base CX0 3 t.f_qn t.d_qn ["kinds","whole","base","mark"] (AgX):=by
 refine T.F_qn.ok sc_qn (fun vs H Q E h=>?_) (fun cdv A outer s H vs Q E hr h=>?_)
 ·obtain ⟨d,kk,w,b,m,k,rfl,hd,w0,b0,m0,hm,hk,hw,hb,q⟩:=h
  rfl
 ·obtain ⟨d,kk,w,b,m,k,rfl,hd,w0,b0,m0,hm,hk,hw,hb,q⟩:=h
  have hu:=Co hr
  have hu64:=hr.units
  refine ⟨_,(Be (Cg (Bn (Jg T) (hr.mono (by decide)) rfl T.m_qd T.F_qd.kp (Lq T) .nil Bt (Ba (Ql (Bn (Vg T) (hr.mono (by decide)) rfl T.m_qbq T.F_qbq.kp (Xk T) .nil Bt (Ba (pv 1) Bc)) (Ql (Bn (Vg T) (hr.mono (by decide)) rfl T.m_qbq T.F_qbq.kp (Xk T) .nil Bt (Ba (pv 2) Bc)) (Sx (Bn (Vg T) (hr.mono (by decide)) rfl T.m_qbq T.F_qbq.kp (Xk T) .nil Bt (Ba (pv 3) Bc))))) (Ba Cr Bc))))
   (Be (Cg (Bn (Jg T) (hr.mono (by decide)) rfl T.m_qd T.F_qd.kp (Lq T) .nil Bt (Ba (La Fo (Bn (Xl T) (hr.mono (by decide)) rfl T.m_qp T.F_qp.kp (Abo T) .nil Bt (Ba (pv 0) (Ba (pv 3) Bc))) Cr (Ck _)) (Ba Cr Bc))))
   (Be (Bs (i:=4) sc_qn.nd rfl (Or.inl rfl) (Bn (Xl T) (hr.mono (by decide)) rfl T.m_qp T.F_qp.kp (Abo T) .nil Bt (Ba (pv 0) (Ba (pv 1) Bc))))
   (Be (Cg (Bn (Jg T) (hr.mono (by decide)) rfl T.m_qd T.F_qd.kp (Lq T) .nil Bt (Ba (La (Wm) (pv 4) (Vw (v:=.ref t.a_JOINED_KINDS) rfl T.g_JOINED_KINDS rfl) rfl) (Ba Cr Bc))))
   (Bi (Cg (Bn (Jg T) (hr.mono (by decide)) rfl T.m_qd T.F_qd.kp (Lq T) .nil Bt (Ba (La Fo (Bn (Xl T) (hr.mono (by decide)) rfl T.m_qp T.F_qp.kp (Abo T) .nil Bt (Ba (pv 0) (Ba (pv 2) Bc))) (pv 4) (Ck _)) (Ba Cr Bc))))))))),?_⟩
  try dsimp only [Ce,By]
  unfold knd at hm hw hb
  walk_at "rd"
  refine AiU w0 ?_
  walk_at "rd"
  refine AiU b0 ?_
  walk_at "rd"
  ·rw [hm]
   walk_at "rd"
   ·rw [hw]
    walk_at "rd"
    refine ⟨_,_,rfl,.inr (T.q_JOINED_KINDS _),rfl,rfl,?_⟩
    rw [show (if false = true then !inV (V.str k) _ else inV (V.str k) [V.str "fore",V.str "back",V.str "num",V.str "blank",V.str "plain"]) = true from AdO hk]
    walk_at "rd"
    rw [hb]
    walk_at "rd"
    ·exact q
    ·exact decide_eq_true rfl
   ·exact decide_eq_true rfl
  ·exact decide_eq_true m0
def AhD:Sp:=fun vs H Q _=>∃ d kvs J n,vs = [.ref d,.int n]/\Rd H d (.dK kvs)/\LAt KvAt H kvs J/\Q (.bl (!(Ct J (jGo J 7 n)).isSome)) H
theorem AlS (T:Txt K mg t):Binds K t.d_qg ["pairs","whole"] []:=T.F_qg.binds (ps:=["pairs","whole"]) fun _ _ _ _ _ _ us hl=>match us,hl with | [_,_],_=>rfl
theorem AkR (T:Txt K mg t):FnOk P w K mg base CX0 1 t.f_qg t.d_qg ["pairs","whole"] (AhD):=by
 refine T.F_qg.ok sc_qg (fun vs H Q E h=>?_) (fun cdv A outer s H vs Q E hr h=>?_)
 ·obtain ⟨d,kvs,J,n,rfl,hd,lj,q⟩:=h
  rfl
 ·obtain ⟨d,kvs,J,n,rfl,hd,lj,q⟩:=h
  have hu:=Co hr
  have hu64:=hr.units
  refine ⟨_,(Be (Bs (i:=2) sc_qg.nd rfl (Or.inl rfl) (pv 1))
   (Be (Df PassesOwn.never rfl (Gz rfl T.z_range (Ba (Vw rfl T.g_MOST_GOINGS.choose_spec.1 T.g_MOST_GOINGS.choose_spec.2) Bc)) (Br (i:=3) sc_qg.nd rfl (Or.inl rfl))
    (Bi (Fj (Vm (AcZ hu (pv 2) (pv 0)))
    (Bi (Bs (i:=2) sc_qg.nd rfl (Or.inl rfl) (Ca (Sr) (AaU hu (pv 0) (pv 2) (fun _ _=>rfl)) Bf (fun _ _=>rfl))))
    Dm)))
   (Bi (Cc (Vj (Ox hu (pv 2) (pv 0))))))),?_⟩
  try dsimp only [Ce,By]
  walk_at "rd"
  refine Tz (hi:=7) (n:=7) (fun R q'=>by walk_at "rd"; exact q') ⟨by decide,by decide⟩ rfl (fun i σ H'=>∃ v3,σ = [some (.ref d),some (.int n),some (.int (jGo J i n)),v3]/\H' = H) ⟨none,rfl,rfl⟩ ?_ ?_
  ·rintro i σ H' hi ⟨v3,rfl,rfl⟩
   walk_at "rd"
   refine ⟨d,_,rfl,.inl ⟨kvs,Sum.inl (jGo J i n),hd,rfl,rfl⟩,?_⟩
   walk_at "rd"
   rcases Vi lj (jGo J i n) with ⟨h1,h2⟩ | ⟨m,p,h1,h2,hp⟩
   ·rw [h2]
    refine Nd ?_
    walk_at "rd"
    exact ⟨_,by show _ = [_,_,some (V.int (Fa J (jGo J i n))),_]; unfold Fa; rw [h1],rfl⟩
   ·rw [h2]
    refine Jr ?_
    walk_at "rd"
    refine ⟨d,.ref p,rfl,.inl ⟨kvs,Sum.inl (jGo J i n),hd,rfl,h2.symm⟩,?_⟩
    walk_at "rd"
    refine Tv hp ?_ rfl
    walk_at "rd"
    exact ⟨_,by show _ = [_,_,some (V.int (Fa J (jGo J i n))),_]; unfold Fa; rw [h1],rfl⟩
  ·rintro σ H' ⟨v3,rfl,rfl⟩
   walk_at "rd"
   refine ⟨d,_,rfl,.inl ⟨kvs,Sum.inl (jGo J 7 n),hd,rfl,rfl⟩,?_⟩
   rcases Vi lj (jGo J 7 n) with ⟨h1,h2⟩ | ⟨m,p,h1,h2,hp⟩
   ·rw [h2]; rw [h1] at q; exact q
   ·rw [h2]; rw [h1] at q; exact q
def Ad1:Sp:=fun vs H Q _=>∃ d b kk xs J,vs = [.ref d,.ref b]/\H d = some (.dK kk)/\H b = some (.lst xs)/\LAt TrjAt H xs J/\Yr kk J/\∀ p kvs H',H p = none->Same H H'->H' p = some (.dK kvs)->LAt KvAt H' kvs J->Q (.ref p) H'
theorem AlE (T:Txt K mg t):Binds K t.d_qt ["kinds","joins"] []:=T.F_qt.binds (ps:=["kinds","joins"]) fun _ _ _ _ _ _ us hl=>match us,hl with | [_,_],_=>rfl
theorem Aki (T:Txt K mg t):FnOk P w K mg base CX0 4 t.f_qt t.d_qt ["kinds","joins"] (Ad1):=by
 refine T.F_qt.ok sc_qt (fun vs H Q E h=>?_) (fun cdv A outer s H vs Q E hr h=>?_)
 ·obtain ⟨d,b,kk,xs,J,rfl,hd,hb,lj,jo,q⟩:=h
  rfl
 ·obtain ⟨d,b,kk,xs,J,rfl,hd,hb,lj,jo,q⟩:=h
  have hu:=Co hr
  have hu64:=hr.units
  refine ⟨_,(Be (Bs (i:=2) sc_qt.nd rfl (Or.inl rfl) Ll)
   (Be (Df PassesOwn.never rfl (Cq (pv 1)) (Oj rfl (Cm (Br (i:=3) sc_qt.nd rfl (Or.inl rfl)) (Cm (Br (i:=4) sc_qt.nd rfl (Or.inl rfl)) (Cm (Br (i:=5) sc_qt.nd rfl (Or.inl rfl)) Gi))))
    (Be (Cg (Bn (AkX T) (hr.mono (by decide)) rfl T.m_qn T.F_qn.kp (Al0 T) .nil Bt (Ba (pv 0) (Ba (pv 3) (Ba (pv 4) (Ba (pv 5) Bc))))))
   (Be (Cg (Bn (Jg T) (hr.mono (by decide)) rfl T.m_qd T.F_qd.kp (Lq T) .nil Bt (Ba (Vj (Ox hu (pv 3) (pv 2))) (Ba Cr Bc))))
   (Bi (Jw hu (pv 2) (pv 3) (AjG (Ba (pv 4) (Ba (pv 5) Bc))) rfl)))))
   (Be (AdD (Df PassesOwn.never rfl (Afn (pv 2)) (Br (i:=3) sc_qt.nd rfl (Or.inl rfl))
    (Bi (Cg (Bn (Jg T) (hr.mono (by decide)) rfl T.m_qd T.F_qd.kp (Lq T) .nil Bt (Ba (Bn (AkR T) (hr.mono (by decide)) rfl T.m_qg T.F_qg.kp (AlS T) .nil Bt (Ba (pv 2) (Ba (pv 3) Bc))) (Ba Cr Bc)))))))
   (Bi (Cc (pv 2)))))),?_⟩
  try dsimp only [Ce,By]
  walk_at "rd"
  intro p hp
  have s0:Same H (upd H p (.dK [])):=Same.new hp
  have e0:(upd H p (.dK [])) p = some (.dK []):=Bl
  generalize upd H p (.dK []) = H0 at s0 e0
  walk_at "rd"
  refine Lz (i:=1) rfl (SqL.of (s0 _ _ hb)) (fun i σ H'=>∃ v3 v4 v5 kvs,σ = [some (.ref d),some (.ref b),some (.ref p),v3,v4,v5]/\Same H H'/\H' p = some (.dK kvs)/\LAt KvAt H' kvs (J.take i)) ⟨none,none,none,[],rfl,s0,e0,LAt.nil⟩ (fun i σ H' _ ⟨_,_,_,_,_,s,_⟩=>SqL.of (s _ _ hb)) ?_ ?_
  ·rintro i x σ H' hi ⟨v3,v4,v5,kvs,rfl,s,e,lk⟩
   obtain ⟨j,ej,a,rfl,ha⟩:=lj.get hi
   have hj:=List.mem_of_getElem? ej
   have ha':=s _ _ ha
   obtain ⟨k,hk,hw,hb'⟩:=jo.kd j hj
   obtain ⟨n1,n2,n3⟩:=jo.nn j hj
   have hlen:kvs.length <= 400:=by
    rw [lk.1,List.length_take]
    have:=jo.ln
    omega
   have hno:Ci kvs (Sum.inl j.1) = none:=by
    rcases Vi lk j.1 with ⟨_,h2⟩ | ⟨m,_,h1,_,_⟩
    ·exact h2
    ·exact absurd (show j.1 ∈ (J.take i).map (·.1) from List.mem_map.mpr ⟨_,Lc h1,rfl⟩) (Ld (f:=(·.1)) jo.nw ej)
   walk_at "rd"
   refine ⟨d,kk,j.1,j.2.1,j.2.2,k,rfl,s _ _ hd,n1,n2,n3,jo.mr j hj,hk,hw,hb',?_⟩
   walk_at "rd"
   ·refine ⟨by show 2 <= sizeLine; decide,fun t ht=>?_⟩
    walk_at "rd"
    refine AdB (Same.new ht _ _ e) ?_ (Dn (by omega))
    rw [Lh _ hno]
    have ntp:t ≠ p:=(Bm e ht).symm
    have kt:∀ q' zs,H' q' = some (.tup zs)->(upd (upd H' t (.tup [.int j.2.1,.int j.2.2])) p (.dK (kvs ++ [(Sum.inl j.1,V.ref t)]))) q' = some (.tup zs):=fun q' zs z=>by
     rw [Bg (Dl z e (by intro w; cases w)),Bg (Bm z ht)]; exact z
    refine ⟨_,_,_,_,rfl,fun q' o z=>?_,Bl,?_⟩
    ·rw [Bg (Bm z hp),Bg (Bm (s _ _ z) ht)]; exact s _ _ z
    ·rw [Cn ej]
     exact LAt.snoc (lk.mono fun x y h=>h.mono kt) ⟨rfl,t,rfl,by rw [Bg ntp,Bl]⟩
   ·rw [hno]; rfl
  ·rintro σ H' ⟨v3,v4,v5,kvs,rfl,s,e,lk⟩
   rw [lj.1,List.take_length] at lk
   dsimp only
   with_reducible refine AbC ?_
   refine Akc (i:=2) (a:=p) (kvs:=kvs) rfl e (fun i σ H''=>∃ v3 v4 v5,σ = [some (.ref d),some (.ref b),some (.ref p),v3,v4,v5]/\H'' = H') ⟨_,_,_,rfl,rfl⟩ (fun i σ H' _ ⟨_,_,_,_,z⟩=>by subst z; exact e) ?_ ?_
   ·rintro o i kv σ H'' hi ⟨v3,v4,v5,rfl,rfl⟩
    obtain ⟨j,ej,e1,_⟩:=lk.get hi
    have hj:=List.mem_of_getElem? ej
    obtain ⟨key,val⟩:=kv
    dsimp only at e1
    subst e1
    show Lx _ (.int j.1) _ _ _
    walk_at "rd"
    refine ⟨p,kvs,J,j.1,rfl,Ajd,lk.mono fun x y h=>h.mono fun q' zs z=>?_,?_⟩
    ·rw [Bg (Dl z e (by intro w; cases w))]; exact z
    ·walk_at "rd"
     ·exact ⟨Bl,_,_,_,rfl,Aer e⟩
     ·rw [jo.en j hj]; rfl
   ·rintro σ H'' ⟨v3,v4,v5,rfl,rfl⟩
    walk_at "rd"
    exact q p kvs _ hp s e lk
def AcO:Sp:=fun vs H Q _=>∃ d kvs J,vs = [.ref d]/\H d = some (.dK kvs)/\LAt KvAt H kvs J/\(J.map (·.2)).Nodup/\J.length <= 400/\∀ p H',H p = none->Same H H'->H' p = some (.dT (kW J))->Q (.ref p) H'
theorem AlU (T:Txt K mg t):Binds K t.d_qk ["pairs"] []:=T.F_qk.binds (ps:=["pairs"]) fun _ _ _ _ _ _ us hl=>match us,hl with | [_],_=>rfl
theorem Akr (T:Txt K mg t):FnOk P w K mg base CX0 2 t.f_qk t.d_qk ["pairs"] (AcO):=by
 refine T.F_qk.ok sc_qk (fun vs H Q E h=>?_) (fun cdv A outer s H vs Q E hr h=>?_)
 ·obtain ⟨d,kvs,J,rfl,hd,lk,np,ln,q⟩:=h
  rfl
 ·obtain ⟨d,kvs,J,rfl,hd,lk,np,ln,q⟩:=h
  have hu:=Co hr
  have hu64:=hr.units
  refine ⟨_,(Be (Bs (i:=1) sc_qk.nd rfl (Or.inl rfl) Aen)
   (Be (AdD (Df PassesOwn.never rfl (Adp (pv 0)) (Oj rfl (Cm (Br (i:=2) sc_qk.nd rfl (Or.inl rfl)) (Cm (Br (i:=3) sc_qk.nd rfl (Or.inl rfl)) Gi)))
    (Be (Cg (Bn (Jg T) (hr.mono (by decide)) rfl T.m_qd T.F_qd.kp (Lq T) .nil Bt (Ba (Vj (Ox hu (pv 3) (pv 1))) (Ba Cr Bc))))
   (Bi (Jw hu (pv 1) (pv 3) (pv 2) rfl)))))
   (Bi (Cc (pv 1))))),?_⟩
  try dsimp only [Ce,By]
  walk_at "rd"
  intro p hp
  have s0:Same H (upd H p (.dT [])):=Same.new hp
  have e0:(upd H p (.dT [])) p = some (.dT []):=Bl
  generalize upd H p (.dT []) = H0 at s0 e0
  have ndp:d ≠ p:=Bm hd hp
  walk_at "rd"
  refine Ajr (i:=0) (a:=d) (kvs:=kvs) rfl (s0 _ _ hd) (fun i σ H'=>∃ v2 v3,σ = [some (.ref d),some (.ref p),v2,v3]/\Same H H'/\H' p = some (.dT (kW (J.take i)))) ⟨none,none,rfl,s0,e0⟩ ?_ ?_
  ·rintro o i kv t σ H' hi ht ntd ⟨v2,v3,rfl,s,e⟩
   obtain ⟨j,ej,e1,a,e2,ha⟩:=lk.get hi
   obtain ⟨key,val⟩:=kv
   dsimp only at e1 e2
   subst e1 e2
   have ntp:p ≠ t:=Bm e ht
   have had:a ≠ d:=Dl ha hd (by intro w; cases w)
   have hat:a ≠ t:=Bm (s _ _ ha) ht
   have hap:a ≠ p:=Bm ha hp
   have ep:(upd (upd H' d (.frz o (.dK kvs))) t (.tup [.int j.1,.ref a])) p = some (.dT (kW (J.take i))):=by rw [Bg ntp,Bg ndp.symm]; exact e
   have ea:(upd (upd H' d (.frz o (.dK kvs))) t (.tup [.int j.1,.ref a])) a = some (.tup ([Sum.inl j.2.1,Sum.inl j.2.2].map kV)):=by rw [Bg hat,Bg had]; exact s _ _ ha
   have et:(upd (upd H' d (.frz o (.dK kvs))) t (.tup [.int j.1,.ref a])) t = some (.tup [.int j.1,.ref a]):=Bl
   have ed:(upd (upd H' d (.frz o (.dK kvs))) t (.tup [.int j.1,.ref a])) d = some (.frz o (.dK kvs)):=by rw [Bg ntd.symm,Bl]
   have back:∀ q' u,H q' = some u->q' ≠ d->(upd (upd H' d (.frz o (.dK kvs))) t (.tup [.int j.1,.ref a])) q' = some u:=fun q' u z nz=>by
    rw [Bg (Bm (s _ _ z) ht),Bg nz]; exact s _ _ z
   show Zy _ _ _ _ _ (upd (upd H' d (.frz o (.dK kvs))) t (.tup [.int j.1,.ref a])) _
   generalize upd (upd H' d (.frz o (.dK kvs))) t (.tup [.int j.1,.ref a]) = H2 at ep ea et ed back
   have hno:Ci (kW (J.take i)) [Sum.inl j.2.1,Sum.inl j.2.2] = none:=AkW (Ld (f:=(·.2)) np ej)
   have hlen:(kW (J.take i)).length <= 400:=by unfold kW; rw [List.length_map,List.length_take]; omega
   walk_at "rd"
   refine ⟨p,_,rfl,DGet.t ep ea,?_⟩
   rw [hno]
   walk_at "rd"
   rotate_left
   ·rfl
   refine ⟨p,_,rfl,DPut.t ep ea (Dn (by omega)),?_⟩
   rw [Lh _ hno]
   refine ⟨by rw [Bg ndp]; exact ed,_,_,rfl,fun q' u z=>?_,?_⟩
   ·by_cases hq:q' = d
    ·subst hq
     rw [Bl]
     rw [hd] at z; exact z
    ·rw [Bg hq,Bg (Bm z hp)]; exact back _ _ z hq
   ·rw [Bg ndp.symm,Bl,Cn ej]
    simp [kW]
  ·rintro σ H' ⟨v2,v3,rfl,s,e⟩
   rw [lk.1,List.take_length] at e
   walk_at "rd"
   exact q p _ hp s e
theorem AlH (T:Txt K mg t):Binds K t.d_qv ["self","signs","mates","joins"] []:=T.F_qv.binds (ps:=["self","signs","mates","joins"]) fun _ _ _ _ _ _ us hl=>match us,hl with | [_,_,_,_],_=>rfl
theorem AkU (T:Txt K mg t):FnOk P w K mg base CX0 5 t.f_qv t.d_qv ["self","signs","mates","joins"] (AaS t.C_Book):=by
 refine T.F_qv.ok Als (fun vs H Q E h=>?_) (fun cdv A outer s H vs Q E hr h=>?_)
 ·obtain ⟨p,dx,a,b,cc,xs,ys,zs,signs,mates,J,rfl,hp,ha,hb,hc,ls,lm,lj,so,mo,nd,jo,hl,q⟩:=h
  rfl
 ·obtain ⟨p,dx,a,b,cc,xs,ys,zs,signs,mates,J,rfl,hp,ha,hb,hc,ls,lm,lj,so,mo,nd,jo,hl,q⟩:=h
  have hu:=Co hr
  have hu64:=hr.units
  refine ⟨_,(Be (Cg (Bn (Abx T) (hr.mono (by decide)) rfl T.m_qf T.F_qf.kp (Ad8 T) .nil Bt (Ba (pv 1) (Ba Bf Bc))))
   (Be (Cg (Bn (Abx T) (hr.mono (by decide)) rfl T.m_qf T.F_qf.kp (Ad8 T) .nil Bt (Ba (pv 2) (Ba Bf Bc))))
   (Be (Cg (Bn (Abx T) (hr.mono (by decide)) rfl T.m_qf T.F_qf.kp (Ad8 T) .nil Bt (Ba (pv 3) (Ba Bf Bc))))
   (Be (Tb (pv 0) (Bn (AkN T) (hr.mono (by decide)) rfl T.m_qq T.F_qq.kp (Alz T) .nil Bt (Ba (pv 1) (Ba (pv 2) Bc))) rfl)
   (Be (Tb (pv 0) (Bn (Aln T) (hr.mono (by decide)) rfl T.m_qu T.F_qu.kp (AlJ T) .nil Bt (Ba (pv 1) Bc)) rfl)
   (Be (Tb (pv 0) (Bn (Ak3 T) (hr.mono (by decide)) rfl T.m_qz T.F_qz.kp (AlO T) .nil Bt (Ba (pv 2) Bc)) rfl)
   (Be (Tb (pv 0) (Bn (Aki T) (hr.mono (by decide)) rfl T.m_qt T.F_qt.kp (AlE T) .nil Bt (Ba (Sw (pv 0) rfl) (Ba (pv 3) Bc))) rfl)
   (Bi (Tb (pv 0) (Bn (Akr T) (hr.mono (by decide)) rfl T.m_qk T.F_qk.kp (AlU T) .nil Bt (Ba (Sw (pv 0) rfl) Bc)) rfl))))))))),?_⟩
  try dsimp only [Ce,By]
  have nt:∀ q' zs,H q' = some (.tup zs)->q' ≠ p:=fun q' zs h=>Dl h hp (by intro z; cases z)
  have nap:a ≠ p:=Dl ha hp (by intro z; cases z)
  have nbp:b ≠ p:=Dl hb hp (by intro z; cases z)
  have ncp:cc ≠ p:=Dl hc hp (by intro z; cases z)
  have c3:∀ x ∈ xs,∃ b ys,x = V.ref b/\H b = some (.tup ys)/\((ys.length:Nat):Int) = 3:=fun x hx=>by
   obtain ⟨i,hi⟩:=List.getElem?_of_mem hx
   obtain ⟨s,_,q',e,h⟩:=ls.get hi
   exact ⟨q',_,e,h,rfl⟩
  have c2:∀ x ∈ ys,∃ b ys,x = V.ref b/\H b = some (.tup ys)/\((ys.length:Nat):Int) = 2:=fun x hx=>by
   obtain ⟨i,hi⟩:=List.getElem?_of_mem hx
   obtain ⟨s,_,q',e,h⟩:=lm.get hi
   exact ⟨q',_,e,h,rfl⟩
  have c3j:∀ x ∈ zs,∃ b ys,x = V.ref b/\H b = some (.tup ys)/\((ys.length:Nat):Int) = 3:=fun x hx=>by
   obtain ⟨i,hi⟩:=List.getElem?_of_mem hx
   obtain ⟨s,_,q',e,h⟩:=lj.get hi
   exact ⟨q',_,e,h,rfl⟩
  have mJ:∀ {H'},Keep p H H'->LAt TrjAt H' zs J:=fun k=>lj.mono fun x y h=>h.mono fun q' zs e=>k q' _ e (nt q' zs e)
  have mT:∀ {H'},Keep p H H'->LAt TripAt H' xs signs:=fun k=>ls.mono fun x y h=>h.mono fun q' zs e=>k q' _ e (nt q' zs e)
  have mP:∀ {H'},Keep p H H'->LAt PairAt H' ys mates:=fun k=>lm.mono fun x y h=>h.mono fun q' zs e=>k q' _ e (nt q' zs e)
  have nd1:=(List.nodup_append.mp nd).1
  have nd2:=(List.nodup_append.mp nd).2.1
  walk_at "rd"
  refine ⟨a,xs,_,rfl,ha,c3,?_⟩
  walk_at "rd"
  refine ⟨b,ys,_,rfl,hb,c2,?_⟩
  walk_at "rd"
  refine ⟨cc,zs,_,rfl,hc,c3j,?_⟩
  walk_at "rd"
  refine ⟨a,b,xs,ys,signs,mates,rfl,ha,hb,ls,lm,so,mo,nd,by omega,fun dk hk=>?_⟩
  have fk:H dk = none:=hk
  walk_at "rd"
  have k1:Keep p H (upd H dk (.dK (kK signs ++ kM mates))):=Keep.new hk
  have p1:(upd H dk (.dK (kK signs ++ kM mates))) p = some (.ins t.C_Book dx []):=by rw [Bg (Bm hp hk)]; exact hp
  have e1:(upd H dk (.dK (kK signs ++ kM mates))) dk = some (.dK (kK signs ++ kM mates)):=Bl
  generalize upd H dk (.dK (kK signs ++ kM mates)) = H1 at k1 p1 e1
  refine ⟨p,_,_,_,rfl,p1,T.cl_Book,T.n_Book_kinds,by show 0 < 1000; decide,?_⟩
  have k2:Keep p H (upd H1 p (.ins t.C_Book dx (Bu "kinds" (.ref dk) []))):=k1.trans Keep.put
  have p2:(upd H1 p (.ins t.C_Book dx (Bu "kinds" (.ref dk) []))) p = some (.ins t.C_Book dx (Bu "kinds" (.ref dk) [])):=Bl
  have e2:(upd H1 p (.ins t.C_Book dx (Bu "kinds" (.ref dk) []))) dk = some (.dK (kK signs ++ kM mates)):=by rw [Bg (Dl e1 p1 (by intro z; cases z))]; exact e1
  generalize upd H1 p (.ins t.C_Book dx (Bu "kinds" (.ref dk) [])) = H2 at k2 p2 e2
  walk_at "rd"
  refine ⟨a,xs,signs,rfl,k2 _ _ ha nap,mT k2,nd1,by omega,fun dr hk=>?_⟩
  have fr':H dr = none:=k2.free p2 hk
  walk_at "rd"
  have k3:Keep p H (upd H2 dr (.dK (kR signs))):=k2.trans (Keep.new hk)
  have p3:(upd H2 dr (.dK (kR signs))) p = some (.ins t.C_Book dx (Bu "kinds" (.ref dk) [])):=by rw [Bg (Bm p2 hk)]; exact p2
  have e3:(upd H2 dr (.dK (kR signs))) dk = some (.dK (kK signs ++ kM mates)):=by rw [Bg (Bm e2 hk)]; exact e2
  have r3:(upd H2 dr (.dK (kR signs))) dr = some (.dK (kR signs)):=Bl
  generalize upd H2 dr (.dK (kR signs)) = H3 at k3 p3 e3 r3
  refine ⟨p,_,_,_,rfl,p3,T.cl_Book,T.n_Book_ranks,Nat.lt_of_le_of_lt (Dk _ _ _) (by show 0 + 1 < 1000; decide),?_⟩
  have k4:Keep p H (upd H3 p (.ins t.C_Book dx (Bu "ranks" (.ref dr) (Bu "kinds" (.ref dk) [])))):=k3.trans Keep.put
  have p4:(upd H3 p (.ins t.C_Book dx (Bu "ranks" (.ref dr) (Bu "kinds" (.ref dk) [])))) p = some (.ins t.C_Book dx (Bu "ranks" (.ref dr) (Bu "kinds" (.ref dk) []))):=Bl
  have e4:(upd H3 p (.ins t.C_Book dx (Bu "ranks" (.ref dr) (Bu "kinds" (.ref dk) [])))) dk = some (.dK (kK signs ++ kM mates)):=by rw [Bg (Dl e3 p3 (by intro z; cases z))]; exact e3
  have r4:(upd H3 p (.ins t.C_Book dx (Bu "ranks" (.ref dr) (Bu "kinds" (.ref dk) [])))) dr = some (.dK (kR signs)):=by rw [Bg (Dl r3 p3 (by intro z; cases z))]; exact r3
  generalize upd H3 p (.ins t.C_Book dx (Bu "ranks" (.ref dr) (Bu "kinds" (.ref dk) []))) = H4 at k4 p4 e4 r4
  walk_at "rd"
  refine ⟨b,ys,mates,rfl,k4 _ _ hb nbp,mP k4,nd2,by omega,fun dm hk=>?_⟩
  have fm:H dm = none:=k4.free p4 hk
  walk_at "rd"
  have k5:Keep p H (upd H4 dm (.dK (kB mates))):=k4.trans (Keep.new hk)
  have p5:(upd H4 dm (.dK (kB mates))) p = some (.ins t.C_Book dx (Bu "ranks" (.ref dr) (Bu "kinds" (.ref dk) []))):=by rw [Bg (Bm p4 hk)]; exact p4
  have e5:(upd H4 dm (.dK (kB mates))) dk = some (.dK (kK signs ++ kM mates)):=by rw [Bg (Bm e4 hk)]; exact e4
  have r5:(upd H4 dm (.dK (kB mates))) dr = some (.dK (kR signs)):=by rw [Bg (Bm r4 hk)]; exact r4
  have m5:(upd H4 dm (.dK (kB mates))) dm = some (.dK (kB mates)):=Bl
  generalize upd H4 dm (.dK (kB mates)) = H5 at k5 p5 e5 r5 m5
  refine ⟨p,_,_,_,rfl,p5,T.cl_Book,T.n_Book_mates,Nat.lt_of_le_of_lt (Dk _ _ _) (Nat.lt_of_le_of_lt (Nat.succ_le_succ (Dk _ _ _)) (by show 0 + 1 + 1 < 1000; decide)),?_⟩
  have k6:Keep p H (upd H5 p (.ins t.C_Book dx (Bu "mates" (.ref dm) (Bu "ranks" (.ref dr) (Bu "kinds" (.ref dk) []))))):=k5.trans Keep.put
  have p6:(upd H5 p (.ins t.C_Book dx (Bu "mates" (.ref dm) (Bu "ranks" (.ref dr) (Bu "kinds" (.ref dk) []))))) p = some (.ins t.C_Book dx (Bu "mates" (.ref dm) (Bu "ranks" (.ref dr) (Bu "kinds" (.ref dk) [])))):=Bl
  have e6:(upd H5 p (.ins t.C_Book dx (Bu "mates" (.ref dm) (Bu "ranks" (.ref dr) (Bu "kinds" (.ref dk) []))))) dk = some (.dK (kK signs ++ kM mates)):=by rw [Bg (Dl e5 p5 (by intro z; cases z))]; exact e5
  have r6:(upd H5 p (.ins t.C_Book dx (Bu "mates" (.ref dm) (Bu "ranks" (.ref dr) (Bu "kinds" (.ref dk) []))))) dr = some (.dK (kR signs)):=by rw [Bg (Dl r5 p5 (by intro z; cases z))]; exact r5
  have m6:(upd H5 p (.ins t.C_Book dx (Bu "mates" (.ref dm) (Bu "ranks" (.ref dr) (Bu "kinds" (.ref dk) []))))) dm = some (.dK (kB mates)):=by rw [Bg (Dl m5 p5 (by intro z; cases z))]; exact m5
  generalize upd H5 p (.ins t.C_Book dx (Bu "mates" (.ref dm) (Bu "ranks" (.ref dr) (Bu "kinds" (.ref dk) [])))) = H6 at k6 p6 e6 r6 m6
  walk_at "rd"
  refine ⟨p,_,_,_,_,rfl,p6,T.cl_Book,T.n_Book_kinds,by rw [Cf,if_neg (by decide +kernel),Cf,if_neg (by decide +kernel),Cf,if_pos rfl],?_⟩
  walk_at "rd"
  refine ⟨dk,cc,_,zs,J,rfl,e6,k6 _ _ hc ncp,mJ k6,jo,fun dp kvs H7 hk s7 q7 lk7=>?_⟩
  have fp:H dp = none:=k6.free p6 hk
  walk_at "rd"
  have k7:Keep p H H7:=fun q' o e n=>s7 _ _ (k6 _ _ e n)
  have p7:=s7 _ _ p6
  have e7:=s7 _ _ e6
  have r7:=s7 _ _ r6
  have m7:=s7 _ _ m6
  clear k6 p6 e6 r6 m6 s7
  refine ⟨p,_,_,_,rfl,p7,T.cl_Book,T.n_Book_pairs,Nat.lt_of_le_of_lt (Dk _ _ _) (Nat.lt_of_le_of_lt (Nat.succ_le_succ (Nat.le_trans (Dk _ _ _) (Nat.succ_le_succ (Dk _ _ _)))) (by show 0 + 1 + 1 + 1 < 1000; decide)),?_⟩
  have k8:Keep p H (upd H7 p (.ins t.C_Book dx (Bu "pairs" (.ref dp) (Bu "mates" (.ref dm) (Bu "ranks" (.ref dr) (Bu "kinds" (.ref dk) [])))))):=k7.trans Keep.put
  have p8:(upd H7 p (.ins t.C_Book dx (Bu "pairs" (.ref dp) (Bu "mates" (.ref dm) (Bu "ranks" (.ref dr) (Bu "kinds" (.ref dk) [])))))) p = some (.ins t.C_Book dx (Bu "pairs" (.ref dp) (Bu "mates" (.ref dm) (Bu "ranks" (.ref dr) (Bu "kinds" (.ref dk) []))))):=Bl
  have e8:(upd H7 p (.ins t.C_Book dx (Bu "pairs" (.ref dp) (Bu "mates" (.ref dm) (Bu "ranks" (.ref dr) (Bu "kinds" (.ref dk) [])))))) dk = some (.dK (kK signs ++ kM mates)):=by rw [Bg (Dl e7 p7 (by intro z; cases z))]; exact e7
  have r8:(upd H7 p (.ins t.C_Book dx (Bu "pairs" (.ref dp) (Bu "mates" (.ref dm) (Bu "ranks" (.ref dr) (Bu "kinds" (.ref dk) [])))))) dr = some (.dK (kR signs)):=by rw [Bg (Dl r7 p7 (by intro z; cases z))]; exact r7
  have m8:(upd H7 p (.ins t.C_Book dx (Bu "pairs" (.ref dp) (Bu "mates" (.ref dm) (Bu "ranks" (.ref dr) (Bu "kinds" (.ref dk) [])))))) dm = some (.dK (kB mates)):=by rw [Bg (Dl m7 p7 (by intro z; cases z))]; exact m7
  have q8:(upd H7 p (.ins t.C_Book dx (Bu "pairs" (.ref dp) (Bu "mates" (.ref dm) (Bu "ranks" (.ref dr) (Bu "kinds" (.ref dk) [])))))) dp = some (.dK kvs):=by rw [Bg (Dl q7 p7 (by intro z; cases z))]; exact q7
  have lk8:LAt KvAt (upd H7 p (.ins t.C_Book dx (Bu "pairs" (.ref dp) (Bu "mates" (.ref dm) (Bu "ranks" (.ref dr) (Bu "kinds" (.ref dk) [])))))) kvs J:=lk7.mono fun x y h=>h.mono fun q' zs z=>by rw [Bg (Dl z p7 (by intro z; cases z))]; exact z
  generalize upd H7 p (.ins t.C_Book dx (Bu "pairs" (.ref dp) (Bu "mates" (.ref dm) (Bu "ranks" (.ref dr) (Bu "kinds" (.ref dk) []))))) = H8 at k8 p8 e8 r8 m8 q8 lk8
  clear k7 p7 e7 r7 m7 q7 lk7
  walk_at "rd"
  refine ⟨p,_,_,_,_,rfl,p8,T.cl_Book,T.n_Book_pairs,by rw [Cf,if_pos rfl],?_⟩
  walk_at "rd"
  refine ⟨dp,kvs,J,rfl,q8,lk8,jo.np,jo.ln,fun dw H9 hk s9 w9=>?_⟩
  have fw:H dw = none:=k8.free p8 hk
  walk_at "rd"
  have p9:=s9 _ _ p8
  refine ⟨p,_,_,_,rfl,p9,T.cl_Book,T.n_Book_wholes,Nat.lt_of_le_of_lt (Dk _ _ _) (Nat.lt_of_le_of_lt (Nat.succ_le_succ (Nat.le_trans (Dk _ _ _) (Nat.succ_le_succ (Nat.le_trans (Dk _ _ _) (Nat.succ_le_succ (Dk _ _ _)))))) (by show 0 + 1 + 1 + 1 + 1 < 1000; decide)),?_⟩
  refine q _ kvs dx dk dr dm dp dw (fun q' o e n=>by rw [Bg n]; exact s9 _ _ (k8 _ _ e n)) fk fr' fm fp fw Bl ?_ ?_ ?_ ?_ ?_ ?_
  ·rw [Bg (Dl e8 p8 (by intro z; cases z))]; exact s9 _ _ e8
  ·rw [Bg (Dl r8 p8 (by intro z; cases z))]; exact s9 _ _ r8
  ·rw [Bg (Dl m8 p8 (by intro z; cases z))]; exact s9 _ _ m8
  ·rw [Bg (Dl q8 p8 (by intro z; cases z))]; exact s9 _ _ q8
  ·rw [Bg (Dl w9 p9 (by intro z; cases z))]; exact w9
  ·exact lk8.mono fun x y h=>h.mono fun q' zs z=>by rw [Bg (Dl z p8 (by intro z; cases z))]; exact s9 _ _ z
def Yn (K:PySem.W.Frag):Sp:=fun vs H Q _=>∃ a ns k,vs = [.ref a,.int k]/\SqL K H a (List.map V.int ns)/\0 <= k/\Q (.int (cel ns k)) H
theorem Akx {K:PySem.W.Frag} {a:Addr} {ns:List Int} {k:Int} {H:Hp} {Q:VK} {E:XK} (h:SqL K H a (List.map V.int ns)) (q:Q (.int (cel ns k)) H) (h0:0 <= k):Yn K [.ref a,.int k] H Q E:=⟨a,ns,k,rfl,h,h0,q⟩
local macro_rules | `(tactic| walk_at "u")=>`(tactic| with_reducible refine Akx (by assumption) ?_ ?_)
theorem Rg (T:Txt K mg t):Binds K t.d_qj ["_law_script","_law_k"] []:=T.F_qj.binds (ps:=["_law_script","_law_k"]) fun _ _ _ _ _ _ us hl=>match us,hl with | [_,_],_=>rfl
theorem Of (T:Txt K mg t):FnOk P w K mg base CX0 1 t.f_qj t.d_qj ["_law_script","_law_k"] (Yn K):=by
 refine T.F_qj.ok AkO (fun vs H Q E h=>?_) (fun cdv A outer s H vs Q E hr h=>?_)
 ·obtain ⟨a,ns,k,rfl,hS,h0,q⟩:=h
  rfl
 ·obtain ⟨a,ns,k,rfl,hS,h0,q⟩:=h
  have hu:=Co hr
  have hu64:=hr.units
  refine ⟨_,(Be (Fj (Cl AkZ (pv 1) (Cj (Fn) rfl T.z_len PySem.boot_len (Ba (pv 0) Bc)) (Ck _))
    (Bi (Cc (Ca (Du) (pv 0) (pv 1) (fun _ _=>rfl))))
    Dm)
   (Bi (Cc Bf))),?_⟩
  try dsimp only [Ce,By]
  walk_at "rd"
  refine Fi (fun h=>?_) (fun h=>?_)
  ·have h':k < (((ns.map V.int).length:Nat):Int):=of_decide_eq_true h
   rw [List.length_map] at h'
   obtain ⟨n,rfl⟩:=Int.eq_ofNat_of_zero_le h0
   have hn:n < ns.length:=by omega
   walk_at "rd"
   refine Fk hS ?_ (Dh (v:=V.int ns[n]) (by rw [List.getElem?_map,List.getElem?_eq_getElem hn]; rfl))
   have e:cel ns (n:Int) = ns[n]:=by unfold cel; rw [Int.toNat_natCast,List.getD_eq_getElem?_getD,List.getElem?_eq_getElem hn]; rfl
   rw [e] at q
   exact q
  ·have h':¬ k < (((ns.map V.int).length:Nat):Int):=fun z=>h (decide_eq_true z)
   rw [List.length_map] at h'
   walk_at "rd"
   have e:cel ns k = 0:=by unfold cel; rw [List.getD_eq_getElem?_getD,List.getElem?_eq_none (by omega)]; rfl
   rw [e] at q
   exact q
def Ajp (K:PySem.W.Frag):Sp:=fun vs H Q _=>∃ a ns,vs = [.ref a]/\SqL K H a (List.map V.int ns)/\∀ l H',H l = none->Same H H'->H' l = some (.lst (sgL (sg ns) 29))->Q (.ref l) H'
theorem Alx (T:Txt K mg t):Binds K t.d_qbi ["_law_script"] []:=T.F_qbi.binds (ps:=["_law_script"]) fun _ _ _ _ _ _ us hl=>match us,hl with | [_],_=>rfl
theorem Ain (T:Txt K mg t):FnOk P w K mg base CX0 2 t.f_qbi t.d_qbi ["_law_script"] (Ajp K):=by
 refine T.F_qbi.ok sc_qbi (fun vs H Q E h=>?_) (fun cdv A outer s H vs Q E hr h=>?_)
 ·obtain ⟨a,ns,rfl,hS,q⟩:=h
  rfl
 ·obtain ⟨a,ns,rfl,hS,q⟩:=h
  have hu:=Co hr
  have hu64:=hr.units
  refine ⟨_,(Be (Bs (i:=1) sc_qbi.nd rfl (by first | exact Or.inl rfl | exact Or.inr rfl) (Bo Cv (Bn (Of T) (hr.mono (by decide)) rfl T.m_qj T.F_qj.kp (Rg T) .nil Bt (Ba (pv 0) (Ba Bf Bc))) (Bo Lb Bf Bf)))
   (Be (Bs (i:=2) sc_qbi.nd rfl (by first | exact Or.inl rfl | exact Or.inr rfl) (Bo Ga Bf (Bo Cv (Bn (Of T) (hr.mono (by decide)) rfl T.m_qj T.F_qj.kp (Rg T) .nil Bt (Ba (pv 0) (Ba Bf Bc))) (Bo Lb Bf Bf))))
   (Be (Bs (i:=3) sc_qbi.nd rfl (by first | exact Or.inl rfl | exact Or.inr rfl) (Bo Ga Bf (Bo Cv (Bo Fe (Bn (Of T) (hr.mono (by decide)) rfl T.m_qj T.F_qj.kp (Rg T) .nil Bt (Ba (pv 0) (Ba Bf Bc))) (Bo Lb Bf Bf)) Bf)))
   (Bi (Cc (Lu 1 [1,2,3] ["_law_k","_law_low","_law_step","_law_by"] ["_law_step","_law_low","_law_by"] rfl (Gz rfl T.z_range (Ba Bf Bc)) rfl (fun j y e1 i e2=>match j,e1,e2 with | 0,e1,e2=>by cases e1; cases e2; exact ⟨rfl,rfl,rfl,by decide +kernel⟩ | 1,e1,e2=>by cases e1; cases e2; exact ⟨rfl,rfl,rfl,by decide +kernel⟩ | 2,e1,e2=>by cases e1; cases e2; exact ⟨rfl,rfl,rfl,by decide +kernel⟩ | _ + 3,_,e2=>by simp at e2) (List.forall_mem_cons.mpr ⟨rfl,List.forall_mem_cons.mpr ⟨rfl,List.forall_mem_cons.mpr ⟨rfl,fun _ h=>nomatch h⟩⟩⟩) (by decide +kernel) (fun _ _ _ _=>(Br (i:=0) (show List.Nodup (["_law_k","_law_low","_law_step","_law_by"]:List Str) by decide +kernel) rfl (Or.inl rfl))) (fun _ _ _ _=>Gp) (fun _ _ _ _=>(Bo Ga (pv 1) (Bo Ux (pv 2) (Bo Cv (Bo Ux (pv 0) (pv 3)) Bf)))) rfl (by decide +kernel) rfl (by decide +kernel))))))),?_⟩
  try dsimp only [Ce,By]
  walk_at "rd"
  refine Dd ⟨by decide,by decide,by decide⟩ ?_
  refine Dd (by show (0:Int) < 10 ^ 29; decide) ?_
  walk_at "rd"
  refine Dd ⟨by decide,by decide,by decide⟩ ?_
  refine Dd (by show (0:Int) < 10 ^ 6; decide) ?_
  walk_at "rd"
  refine Dd ⟨by decide,by decide,by decide⟩ ?_
  refine Dd ⟨by decide,by decide⟩ ?_
  walk_at "rd"
  refine Dd (by show (0:Int) < 28; decide) ?_
  walk_at "rd"
  refine Lp ?_
  refine Afy ?_
  walk_at "rd"
  refine ⟨29,rfl,by decide,by decide,fun D hD=>CP.range (fun i H'=>Same H H'/\H' D = some (.lst (sgL (sg ns) i))) ⟨Same.laid hD,Bl⟩ ?_ ?_⟩
  ·rintro i H' N hi ⟨s,e⟩ hN
   walk_at "cs"
   walk_at "rd"
   refine ⟨rfl,Ajk (Jr ?_)⟩
   walk_at "rd"
   refine Dd (.inl ⟨by omega,by omega⟩) ?_
   walk_at "rd"
   refine Dd (by show (0:Int) < 29; decide) ?_
   refine Dd (.inr ⟨by omega,by omega⟩) ?_
   walk_at "rd"
   refine ⟨_,e,Dn (by simp [sgL]; omega),hN _ ⟨fun q' o z=>?_,?_⟩⟩
   ·rw [Bg (Bm z hD)]; exact s _ _ z
   ·rw [Bl,Aeu]
    unfold sg
    rw [Int.zero_add]
    rfl
  ·rintro H' ⟨s,e⟩
   exact q D H' hD s e
  all_goals decide
def Ai9:Sp:=fun vs H Q _=>∃ l S c u,vs = [.ref l,.int c,.int u]/\H l = some (.lst (sgL S 29))/\1 <= u/\∀ r xs R H',H r = none->Same H H'->H' r = some (.lst xs)->LAt TripAt H' xs R->MkR S R->R ≠ []->Q (.ref r) H'
theorem AkM (T:Txt K mg t):Binds K t.d_qbe ["_law_signs_here","_law_cell","_law_unit"] []:=T.F_qbe.binds (ps:=["_law_signs_here","_law_cell","_law_unit"]) fun _ _ _ _ _ _ us hl=>match us,hl with | [_,_,_],_=>rfl
theorem AiZ (T:Txt K mg t):FnOk P w K mg base CX0 1 t.f_qbe t.d_qbe ["_law_signs_here","_law_cell","_law_unit"] (Ai9):=by
 refine T.F_qbe.ok sc_qbe (fun vs H Q E h=>?_) (fun cdv A outer s H vs Q E hr h=>?_)
 ·obtain ⟨l,S,cc,u,rfl,hl,hu1,q⟩:=h
  rfl
 ·obtain ⟨l,S,cc,u,rfl,hl,hu1,q⟩:=h
  have hu:=Co hr
  have hu64:=hr.units
  refine ⟨_,(Be (Bs (i:=3) sc_qbe.nd rfl (Or.inl rfl) (Cw Bc))
   (Be (Df PassesOwn.never rfl (Gz rfl T.z_range (Ba (Bo Ga Bf (Bo Cv (pv 1) Bf)) Bc)) (Br (i:=4) sc_qbe.nd rfl (Or.inl rfl))
    (Be (Bs (i:=1) sc_qbe.nd rfl (Or.inl rfl) (Bo Fe (pv 1) Bf))
   (Bi (Cg (Gk PySem.F.plainAttrs_list PySem.F.slot_list_append PySem.F.type_list_append Fd (pv 3) (Ba (Dw (Ba (Ca (Du) (pv 0) (pv 4) (fun _ _=>rfl)) (Ba Cr (Ba (Bo Ux (pv 2) (Bo Ga Bf (Bo Cv (pv 1) Bf))) Bc)))) Bc))))))
   (Bi (Cc (pv 3))))),?_⟩
  try dsimp only [Ce,By]
  walk_at "rd"
  refine ⟨by decide,fun r H0 hr0 s0 e0=>?_⟩
  walk_at "rd"
  refine Tz (hi:=1 + cc % 5) (n:=(1 + cc % 5).toNat) (fun R q'=>by walk_at "rd"; refine Dd (by show (0:Int) < 5; decide) ?_; walk_at "rd"; exact q') ⟨by omega,by omega⟩ rfl
   (fun i σ H'=>∃ c' v xs R,σ = [some (.ref l),some (.int c'),some (.int u),some (.ref r),v]/\Same H H'/\H' r = some (.lst xs)/\LAt TripAt H' xs R/\MkR S R/\R.length = i) ⟨cc,none,[],[],rfl,s0,e0,LAt.nil,MkR.nil,rfl⟩ ?_ ?_
  ·rintro i σ H' hi ⟨c',v,xs,R,rfl,s,e,lt,mk,rfl⟩
   have hi5:R.length < 5:=by omega
   have el:=s _ _ hl
   have hxl:=lt.1
   walk_at "rd"
   refine Dd ⟨by decide,by decide⟩ ?_
   walk_at "rd"
   refine Fk (SqL.of el) ?_ (v:=.int (S R.length)) (by rw [Int.zero_add]; exact Dh (Gx (by omega)))
   walk_at "rd"
   refine Dd (by show (0:Int) < 3; decide) ?_
   walk_at "rd"
   refine Dd (.inr ⟨by omega,by omega⟩) ?_
   walk_at "rd"
   refine ⟨by show 3 <= sizeLine; decide,fun p H2 hp s2 e2=>?_⟩
   walk_at "rd"
   refine Ds (s2 _ _ e) (Dn (by omega)) fun H3 c3 e3=>?_
   refine ⟨_,_,_,_,rfl,(s.trans s2).chg c3 hr0,e3,LAt.snoc ((lt.tripS s2).tripC c3 (s2 _ _ e)) ⟨p,rfl,c3.tup (s2 _ _ e) e2⟩,mk.snoc hi5 ?_,by simp⟩
   have:(0:Int) < u * (1 + c' / 5 % 3):=Int.mul_pos (by omega) (by omega)
   omega
  ·rintro σ H' ⟨c',v,xs,R,rfl,s,e,lt,mk,hl'⟩
   walk_at "rd"
   refine q r xs R H' hr0 s e lt mk fun z=>?_
   subst z
   have:(1 + cc % 5).toNat = 0:=hl'.symm
   omega
def Aiz:Sp:=fun vs H Q _=>∃ l S c,vs = [.ref l,.int c]/\H l = some (.lst (sgL S 29))/\∀ r xs R H',H r = none->Same H H'->H' r = some (.lst xs)->LAt TripAt H' xs R->BsR S R->R ≠ []->Q (.ref r) H'
theorem Aku (T:Txt K mg t):Binds K t.d_qbb ["_law_signs_here","_law_cell"] []:=T.F_qbb.binds (ps:=["_law_signs_here","_law_cell"]) fun _ _ _ _ _ _ us hl=>match us,hl with | [_,_],_=>rfl
theorem Akd (T:Txt K mg t):FnOk P w K mg base CX0 1 t.f_qbb t.d_qbb ["_law_signs_here","_law_cell"] (Aiz):=by
 refine T.F_qbb.ok sc_qbb (fun vs H Q E h=>?_) (fun cdv A outer s H vs Q E hr h=>?_)
 ·obtain ⟨l,S,cc,rfl,hl,q⟩:=h
  rfl
 ·obtain ⟨l,S,cc,rfl,hl,q⟩:=h
  have hu:=Co hr
  have hu64:=hr.units
  refine ⟨_,(Be (Bs (i:=2) sc_qbb.nd rfl (Or.inl rfl) (Cw Bc))
   (Be (Df PassesOwn.never rfl (Gz rfl T.z_range (Ba (Bo Ga Bf (Bo Cv (pv 1) Bf)) Bc)) (Br (i:=3) sc_qbb.nd rfl (Or.inl rfl))
    (Be (Bs (i:=1) sc_qbb.nd rfl (Or.inl rfl) (Bo Fe (pv 1) Bf))
   (Bi (Cg (Gk PySem.F.plainAttrs_list PySem.F.slot_list_append PySem.F.type_list_append Fd (pv 2) (Ba (Dw (Ba (Ca (Du) (pv 0) (Bo Ga Bf (pv 3)) (fun _ _=>rfl)) (Ba (Ca (Du) (Cw (Ba Cr (Ba Cr (Ba Cr (Ba Cr (Ba Cr Bc)))))) (Bo Cv (pv 1) Bf) (fun _ _=>rfl)) (Ba Bf Bc)))) Bc))))))
   (Bi (Cc (pv 2))))),?_⟩
  try dsimp only [Ce,By]
  walk_at "rd"
  refine ⟨by decide,fun r H0 hr0 s0 e0=>?_⟩
  walk_at "rd"
  refine Tz (hi:=2 + cc % 4) (n:=(2 + cc % 4).toNat) (fun R q'=>by walk_at "rd"; refine Dd (by show (0:Int) < 4; decide) ?_; walk_at "rd"; exact q') ⟨by omega,by omega⟩ rfl
   (fun i σ H'=>∃ c' v xs R,σ = [some (.ref l),some (.int c'),some (.ref r),v]/\Same H H'/\H' r = some (.lst xs)/\LAt TripAt H' xs R/\BsR S R/\R.length = i) ⟨cc,none,[],[],rfl,s0,e0,LAt.nil,BsR.nil,rfl⟩ ?_ ?_
  ·rintro i σ H' hi ⟨c',v,xs,R,rfl,s,e,lt,mk,rfl⟩
   have hi5:R.length < 5:=by omega
   have el:=s _ _ hl
   have hxl:=lt.1
   walk_at "rd"
   refine Dd ⟨by decide,by decide⟩ ?_
   walk_at "rd"
   refine Fk (SqL.of el) ?_ (v:=.int (S (5 + R.length))) (by rw [Int.zero_add]; exact Dh (j:=5 + R.length) (Gx (by omega)))
   walk_at "rd"
   refine ⟨by show 5 <= sizeLine; decide,fun m H1 hm s1 e1=>?_⟩
   walk_at "rd"
   refine Dd (by show (0:Int) < 5; decide) ?_
   refine Fk (SqL.of e1) ?_ (Ajm (Int.emod_nonneg _ (by decide)) (Int.emod_lt_of_pos _ (by decide)))
   walk_at "rd"
   refine ⟨by show 3 <= sizeLine; decide,fun p H2 hp s2 e2=>?_⟩
   have s12:=s1.trans s2
   walk_at "rd"
   refine Ds (s12 _ _ e) (Dn (by omega)) fun H3 c3 e3=>?_
   exact ⟨_,_,_,_,rfl,(s.trans s12).chg c3 hr0,e3,LAt.snoc ((lt.tripS s12).tripC c3 (s12 _ _ e)) ⟨p,rfl,c3.tup (s12 _ _ e) e2⟩,mk.snoc hi5 (AjN (Int.emod_nonneg _ (by decide)) (Int.emod_lt_of_pos _ (by decide))),by simp⟩
  ·rintro σ H' ⟨c',v,xs,R,rfl,s,e,lt,mk,hl'⟩
   walk_at "rd"
   refine q r xs R H' hr0 s e lt mk fun z=>?_
   subst z
   have:(2 + cc % 4).toNat = 0:=hl'.symm
   omega
theorem AeV {K:PySem.W.Frag} {H:Hp} (ys:List V):LEq K H ys [] (decide (ys = [])):=by
 cases ys with
 | nil=>exact AhG
 | cons y r=>exact .inl ⟨by simp,by simp⟩
theorem Aj7 {K:PySem.W.Frag} {H:Hp} {Q:VK} {p r:Addr} {a b c d:Int} (h1:H p = some (.tup [.int a,.int b])) (h2:H r = some (.tup [.int c,.int d])) (ne:p ≠ r) (q:Q (.bl (decide (a = c/\b = d))) H):Afe K false (.ref p) (.ref r) H Q:=by
 have e:((List.range (min [V.int a,V.int b].length [V.int c,V.int d].length)).all (fun i=>if i = 0 then eqV (.int a) (.int c) else eqV (.int b) (.int d)) && [V.int a,V.int b].length == [V.int c,V.int d].length) = decide (a = c/\b = d):=by
  have h2:min [V.int a,V.int b].length [V.int c,V.int d].length = 2:=rfl
  rw [h2,show List.range 2 = [0,1] from rfl]
  simp [eqV]
  rfl
 refine ⟨p,r,_,_,fun i=>if i = 0 then eqV (.int a) (.int c) else eqV (.int b) (.int d),rfl,rfl,SqT.of h1,SqT.of h2,fun i x y e1 e2=>?_,?_⟩
 ·match i,e1,e2 with
  | 0,e1,e2=>cases e1; cases e2; exact .flat rfl rfl
  | 1,e1,e2=>cases e1; cases e2; exact .flat rfl rfl
  | _ + 2,e1,_=>simp at e1
 ·rw [<- e] at q
  exact q
def Ait:Sp:=fun vs H Q _=>∃ rl sl ml c S xs ms R0 Mk,vs = [.ref rl,.ref sl,.ref ml,.int c]/\H rl = some (.lst xs)/\H sl = some (.lst (sgL S 29))/\H ml = some (.lst ms)/\LAt TripAt H xs R0/\LAt TripAt H ms Mk/\R0 ≠ []/\(Mk ≠ []/\MkR S Mk)/\BsR S R0/\sl ≠ rl/\ml ≠ rl /\
 ∀ jl js J xs' R H' k,H jl = none->Chg rl H H'->H' jl = some (.lst js)->LAt TrjAt H' js J->H' rl = some (.lst xs')->LAt TripAt H' xs' R->JB S R0 Mk k R J->k <= 7->Q (.ref jl) H'
theorem Alj (T:Txt K mg t):Binds K t.d_qbc ["_law_rows","_law_signs_here","_law_marks_here","_law_cell"] []:=T.F_qbc.binds (ps:=["_law_rows","_law_signs_here","_law_marks_here","_law_cell"]) fun _ _ _ _ _ _ us hl=>match us,hl with | [_,_,_,_],_=>rfl
theorem AiQ (T:Txt K mg t):FnOk P w K mg base CX0 1 t.f_qbc t.d_qbc ["_law_rows","_law_signs_here","_law_marks_here","_law_cell"] (Ait):=by
 refine T.F_qbc.ok sc_qbc (fun vs H Q E h=>?_) (fun cdv A outer s H vs Q E hr h=>?_)
 ·obtain ⟨rl,sl,ml,cc,S,xs0,ms,R0,Mk,rfl,hrl,hsl,hml,lr0,lm0,hR0,hM0,hB,n1,n2,q⟩:=h
  rfl
 ·obtain ⟨rl,sl,ml,cc,S,xs0,ms,R0,Mk,rfl,hrl,hsl,hml,lr0,lm0,hR0,hM0,hB,n1,n2,q⟩:=h
  have hu:=Co hr
  have hu64:=hr.units
  refine ⟨_,(Be (Bs (i:=4) sc_qbc.nd rfl (Or.inl rfl) (Cw Bc))
   (Be (Df PassesOwn.never rfl (Gz rfl T.z_range (Ba (Bo Cv (pv 3) Bf) Bc)) (Br (i:=5) sc_qbc.nd rfl (Or.inl rfl))
    (Be (Bs (i:=3) sc_qbc.nd rfl (Or.inl rfl) (Bo Fe (pv 3) Bf))
   (Be (Bs (i:=6) sc_qbc.nd rfl (by first | exact Or.inl rfl | exact Or.inr rfl) (Ca (Du) (pv 0) (Bo Cv (pv 3) (Cj (Fn) rfl T.z_len PySem.boot_len (Ba (pv 0) Bc))) (fun _ _=>rfl)))
   (Be (Bs (i:=7) sc_qbc.nd rfl (by first | exact Or.inl rfl | exact Or.inr rfl) (Ca (Sr) (Ca (Du) (pv 2) (Bo Cv (Bo Fe (pv 3) Bf) (Cj (Fn) rfl T.z_len PySem.boot_len (Ba (pv 2) Bc))) (fun _ _=>rfl)) Bf (fun _ _=>rfl)))
   (Be (Fj (Cl (Adb hu64) (Lu 1 [6,7] ["_law_join","_law_base","_law_mark"] ["_law_mark","_law_base"] rfl (Cq (pv 4)) rfl (fun j y e1 i e2=>match j,e1,e2 with | 0,e1,e2=>by cases e1; cases e2; exact ⟨rfl,rfl,rfl,by decide +kernel⟩ | 1,e1,e2=>by cases e1; cases e2; exact ⟨rfl,rfl,rfl,by decide +kernel⟩ | _ + 2,_,e2=>by simp at e2) (List.forall_mem_cons.mpr ⟨rfl,List.forall_mem_cons.mpr ⟨rfl,fun _ h=>nomatch h⟩⟩) (by decide +kernel) (fun _ _ _ _=>(Br (i:=0) (show List.Nodup (["_law_join","_law_base","_law_mark"]:List Str) by decide +kernel) rfl (Or.inl rfl))) (fun _ _ _ _=>(Jv (Cl (AhA K hu64) (Di (Ag7 K) (pv 0) (Da Bf) Dy) (Dw (Ba (Ca (Cp K) (pv 1) Bf (fun _ _=>rfl)) (Ba (pv 2) Bc))) (Ck _)))) (fun _ _ _ _=>(pv 0)) rfl (by decide +kernel) rfl (by decide +kernel)) (Cw Bc) (Ck _))
    (Be (Cg (Gk PySem.F.plainAttrs_list PySem.F.slot_list_append PySem.F.type_list_append Fd (pv 4) (Ba (Dw (Ba (Ca (Du) (pv 1) (Bo Ga Bf (pv 5)) (fun _ _=>rfl)) (Ba (Ca (Sr) (pv 6) Bf (fun _ _=>rfl)) (Ba (pv 7) Bc)))) Bc)))
   (Bi (Cg (Gk PySem.F.plainAttrs_list PySem.F.slot_list_append PySem.F.type_list_append Fd (pv 0) (Ba (Dw (Ba (Ca (Du) (pv 1) (Bo Ga Bf (pv 5)) (fun _ _=>rfl)) (Ba (Ca (Sr) (pv 6) Bf (fun _ _=>rfl)) (Ba Bf Bc)))) Bc)))))
    Dm)
   (Bi (Bs (i:=3) sc_qbc.nd rfl (Or.inl rfl) (Bo Fe (pv 3) Bf))))))))
   (Bi (Cc (pv 4))))),?_⟩
  try dsimp only [Ce,By]
  walk_at "rd"
  refine ⟨by decide,fun jl H0 hj0 s0 e0=>?_⟩
  have njr:jl ≠ rl:=(Bm hrl hj0).symm
  have njs:jl ≠ sl:=(Bm hsl hj0).symm
  have njm:jl ≠ ml:=(Bm hml hj0).symm
  walk_at "rd"
  refine Tz (hi:=cc % 8) (n:=(cc % 8).toNat) (fun R q'=>by walk_at "rd"; refine Dd (by show (0:Int) < 8; decide) ?_; walk_at "rd"; exact q') ⟨by omega,by omega⟩ rfl
   (fun i σ H'=>∃ c' v5 v6 v7 xs js R J,σ = [some (.ref rl),some (.ref sl),some (.ref ml),some (.int c'),some (.ref jl),v5,v6,v7]/\Chg rl H H'/\H' rl = some (.lst xs)/\LAt TripAt H' xs R/\H' jl = some (.lst js)/\LAt TrjAt H' js J/\JB S R0 Mk i R J)
   ⟨cc,none,none,none,xs0,[],R0,[],rfl,fun q' o z _=>s0 _ _ z,s0 _ _ hrl,lr0.tripS s0,e0,LAt.nil,.nil⟩ ?_ ?_
  ·rintro i σ H' hi ⟨c',v5,v6,v7,xs,js,R,J,rfl,ch,erl,lr,ejl,lj,jb⟩
   have hi7:i < 7:=by omega
   obtain ⟨jl1,jl2⟩:=jb.len
   have hBl:=hB.ln
   have hM5:=hM0.2.ln
   have hRn:0 < xs.length:=by
    rw [lr.1,jl2]
    have:=List.length_pos_iff.mpr hR0
    omega
   have hMn:0 < ms.length:=by
    rw [lm0.1]; exact List.length_pos_iff.mpr hM0.1
   have esl:=ch _ _ hsl n1
   have eml:=ch _ _ hml n2
   have lm:LAt TripAt H' ms Mk:=lm0.tripC ch hrl
   have hxl:xs.length <= 12:=by rw [lr.1,jl2]; omega
   have hjs:js.length <= 7:=by rw [lj.1]; omega
   walk_at "rd"
   refine Dd ⟨by decide,by decide⟩ ?_
   walk_at "rd"
   refine Dd (by show (0:Int) < (xs.length:Nat); omega) ?_
   obtain ⟨x,ex⟩:∃ x,xs[(c' / 8 % (xs.length:Nat)).toNat]? = some x:=⟨_,List.getElem?_eq_getElem (by
    have z1:=Int.emod_nonneg (c' / 8) (b:=(xs.length:Nat)) (by omega)
    have z2:=Int.emod_lt_of_pos (c' / 8) (b:=(xs.length:Nat)) (by omega)
    omega)⟩
   obtain ⟨s,es,p,rfl,hp⟩:=lr.get ex
   have hs:=List.mem_of_getElem? es
   refine Fk (SqL.of erl) ?_ (v:=.ref p) (by
    have z1:=Int.emod_nonneg (c' / 8) (b:=(xs.length:Nat)) (by omega)
    rw [show c' / 8 % (xs.length:Nat) = (((c' / 8 % (xs.length:Nat)).toNat:Nat):Int) by omega]
    exact Dh ex)
   walk_at "rd"
   refine Dd ⟨by decide,by decide⟩ ?_
   walk_at "rd"
   refine Dd (by show (0:Int) < (ms.length:Nat); omega) ?_
   obtain ⟨y,ey⟩:∃ y,ms[(c' / 8 / 16 % (ms.length:Nat)).toNat]? = some y:=⟨_,List.getElem?_eq_getElem (by
    have z1:=Int.emod_nonneg (c' / 8 / 16) (b:=(ms.length:Nat)) (by omega)
    have z2:=Int.emod_lt_of_pos (c' / 8 / 16) (b:=(ms.length:Nat)) (by omega)
    omega)⟩
   obtain ⟨m,em,pm,rfl,hpm⟩:=lm.get ey
   have hm:=List.mem_of_getElem? em
   refine Fk (SqL.of eml) ?_ (v:=.ref pm) (by
    have z1:=Int.emod_nonneg (c' / 8 / 16) (b:=(ms.length:Nat)) (by omega)
    rw [show c' / 8 / 16 % (ms.length:Nat) = (((c' / 8 / 16 % (ms.length:Nat)).toNat:Nat):Int) by omega]
    exact Dh ey)
   walk_at "rd"
   refine Tv hpm ?_ rfl
   walk_at "rd"
   refine Lp ?_
   refine Ae5 ?_
   walk_at "rd"
   refine ⟨jl,rfl,⟨_,SqL.of ejl⟩,fun D hD=>CP.list (js) (fun i H2=>Same H' H2/\∃ ys,H2 D = some (.lst ys)/\(ys = [] ↔ ¬ (s.1,m.1) ∈ (J.take i).map (·.2))/\ys.length <= i) ⟨Same.laid hD,[],Bl,by simp,Nat.le_refl _⟩ (fun i H2 _ h=>SqL.of (h.1 _ _ ejl)) ?_ ?_⟩
   ·rintro n x2 H2 N hn ⟨s2,ys,ey2,iff,hyl⟩ hN
    obtain ⟨j,ej,a,rfl,ha⟩:=lj.get hn
    have hlt:=(List.getElem?_eq_some_iff.mp hn).1
    have ha2:=s2 _ _ ha
    have hp2:=s2 _ _ hp
    walk_at "cs"
    walk_at "rd"
    refine ⟨rfl,?_⟩
    walk_at "rd"
    refine ⟨a,_,rfl,SqT.of ha2,(show ¬ (HT.sIx 3 0 (some 1) = 0/\HT.sIx 3 3 none = 3) by decide),fun p3 H3 hp3 s3 e3=>?_⟩
    have hp4:=s3 _ _ hp2
    walk_at "rd"
    refine Tv hp4 ?_ rfl
    walk_at "rd"
    refine ⟨by show 2 <= sizeLine; decide,fun p4 H4 hp4 s4 e4=>?_⟩
    walk_at "rd"
    refine Aj7 (a:=j.2.1) (b:=j.2.2) (s4 _ _ e3) e4 (Bm e3 hp4) ?_
    have s24:=(s2.trans s3).trans s4
    have ey4:=s4 _ _ (s3 _ _ ey2)
    have et:(J.take (n + 1)).map (·.2) = (J.take n).map (·.2) ++ [j.2]:=by rw [Cn ej,List.map_append]; rfl
    walk_at "rd"
    refine Fi (fun h=>?_) (fun h=>?_)
    ·have h':j.2.1 = s.1/\j.2.2 = m.1:=of_decide_eq_true h
     walk_at "rd"
     refine ⟨ys,ey4,Dn (by omega),hN _ ⟨fun q' o z=>?_,_,Bl,?_,by simp; omega⟩⟩
     ·rw [Bg (Bm z hD)]; exact s24 _ _ z
     ·rw [et]
      constructor
      ·intro z; simp at z
      ·intro z; exact absurd (List.mem_append_right _ (by rw [<- h'.1,<- h'.2]; exact List.mem_cons_self)) z
    ·have h':¬ (j.2.1 = s.1/\j.2.2 = m.1):=fun z=>h (decide_eq_true z)
     refine hN _ ⟨s24,ys,ey4,?_,by omega⟩
     rw [et,iff,List.mem_append]
     constructor
     ·intro z w
      rcases w with w | w
      ·exact z w
      ·have:=List.mem_singleton.mp w
       exact h' ⟨by rw [<- this],by rw [<- this]⟩
     ·exact fun z w=>z (.inl w)
   ·rintro H2 ⟨s2,ys,ey2,iff,hyl⟩
    rw [lj.1,List.take_length] at iff
    walk_at "rd"
    refine ⟨by decide,fun e1 H3 he1 s3 ee1=>?_⟩
    have s23:=s2.trans s3
    walk_at "rd"
    refine Ald (k:=decide (ys = [])) (SqL.of (s3 _ _ ey2)) (SqL.of ee1) (AeV ys) ?_
    replace erl:=s23 _ _ erl
    replace ejl:=s23 _ _ ejl
    replace lr:=LAt.tripS lr s23
    replace lj:=LAt.trjS lj s23
    replace ch:=Chg.same ch s23
    replace esl:=s23 _ _ esl
    replace hp:=s23 _ _ hp
    walk_at "rd"
    refine Fi (fun h=>?_) (fun h=>?_)
    ·have hn:¬ (s.1,m.1) ∈ J.map (·.2):=iff.mp (of_decide_eq_true h)
     walk_at "rd"
     refine Fk (SqL.of esl) ?_ (v:=.int (S (10 + i))) (by rw [Int.zero_add]; exact Dh (j:=10 + i) (Gx (by omega)))
     walk_at "rd"
     refine Tv hp ?_ rfl
     walk_at "rd"
     refine ⟨by show 3 <= sizeLine; decide,fun p5 H5 hp5 s5 e5=>?_⟩
     replace erl:=s5 _ _ erl
     replace ejl:=s5 _ _ ejl
     replace lr:=LAt.tripS lr s5
     replace lj:=LAt.trjS lj s5
     replace ch:=Chg.same ch s5
     replace esl:=s5 _ _ esl
     replace hp:=s5 _ _ hp
     walk_at "rd"
     refine Ds ejl (Dn (by omega)) fun H6 c6 e6=>?_
     have cf:H jl = none:=hj0
     replace erl:=c6 _ _ erl (Ne.symm (by assumption))
     replace lr:=LAt.tripC lr c6 ejl
     replace lj:=LAt.trjC lj c6 ejl
     replace esl:=c6 _ _ esl (Ne.symm (by assumption))
     replace hp:=Chg.tup c6 ejl hp
     replace e5:=Chg.tup c6 ejl e5
     have ch6:Chg rl H H6:=fun q' o z nz=>c6 _ _ (ch _ _ z nz) (Bm z hj0)
     walk_at "rd"
     refine Fk (SqL.of esl) ?_ (v:=.int (S (10 + i))) (by rw [Int.zero_add]; exact Dh (j:=10 + i) (Gx (by omega)))
     walk_at "rd"
     refine Tv hp ?_ rfl
     walk_at "rd"
     refine ⟨by show 3 <= sizeLine; decide,fun p7 H7 hp7 s7 e7=>?_⟩
     replace erl:=s7 _ _ erl
     replace e6:=s7 _ _ e6
     replace lr:=LAt.tripS lr s7
     replace lj:=LAt.trjS lj s7
     replace ch6:=Chg.same ch6 s7
     replace e5:=s7 _ _ e5
     walk_at "rd"
     refine Ds erl (Dn (by omega)) fun H8 c8 e8=>?_
     have e7':=c8.tup erl e7
     have e5':=c8.tup erl e5
     have ch8:=ch6.trans c8
     have lr8:=lr.tripC c8 erl
     have lj8:=lj.trjC c8 erl
     have e68:=c8 _ _ e6 njr
     walk_at "rd"
     refine Dd ⟨by decide,by decide⟩ ?_
     walk_at "rd"
     exact ⟨_,_,_,_,_,_,_,_,rfl,ch8,e8,LAt.snoc lr8 ⟨p7,rfl,e7'⟩,e68,LAt.snoc lj8 ⟨p5,rfl,e5'⟩,.add jb hs hm hn⟩
    ·walk_at "rd"
     refine Dd ⟨by decide,by decide⟩ ?_
     walk_at "rd"
     exact ⟨_,_,_,_,_,_,_,_,rfl,ch,erl,lr,ejl,lj,.skip jb⟩
  ·rintro σ H' ⟨c',v5,v6,v7,xs,js,R,J,rfl,ch,erl,lr,ejl,lj,jb⟩
   walk_at "rd"
   exact q jl js J xs R H' _ hj0 ch ejl lj erl lr jb (by omega)
def Yp (K:PySem.W.Frag):Sp:=fun vs H Q _=>∃ a ns,vs = [.ref a]/\SqL K H a (List.map V.int ns)/\∀ tp l0 l1 l2 x0 x1 x2 U M J H',Same H H'->H' tp = some (.tup [.ref l0,.ref l1,.ref l2])->H' l0 = some (.lst x0)->H' l1 = some (.lst x1)->H' l2 = some (.lst x2) ->
 LAt TripAt H' x0 U->LAt PairAt H' x1 M->LAt TrjAt H' x2 J->H l0 = none->H l1 = none->H l2 = none->Fq U M J->Q (.ref tp) H'
def AcB:PSp:=fun ps P=>∃ ns,ps = [.scr ns]/\∀ U M J,Fq U M J->P (.tup [.lst (List.map sgP U),.lst (List.map prP M),.lst (List.map jnP J)])
theorem Alk {C:Addr} {G:Hp} {a b c:V} {p q r:PV} (h1:Rep K C G a p) (h2:Rep K C G b q) (h3:Rep K C G c r):Reps K C G [a,b,c] [p,q,r]:=LAt.snoc (LAt.snoc (LAt.snoc LAt.nil h1) h2) h3
theorem Aea {C:Addr} {ω:Om} {E:XK} {m:Bool} {t:TA} {u:UA} (ha:AU K C ω [m] t u):EU K C ω (Oz (Yp K) [] E t) (Qz AcB u) :=
 fun B G0 H0 own G σ H ρ P Q S hu k=>ha B G0 H0 own G σ H ρ _ _ S hu fun vs ps G1 H1 w1 ok ⟨ns,e,h⟩=>by
  obtain ⟨v,p,rfl,e2,r⟩:=Oc ok
  rw [e] at e2; cases e2
  obtain ⟨a,rfl,sq⟩:=r.scr w1.i
  refine ⟨a,ns,rfl,sq,fun tp l0 l1 l2 x0 x1 x2 U M J H2 s2 etp e0 e1 e2 lU lM lJ f0 f1 f2 bk=>?_⟩
  refine k _ _ _ H2 (w1.trans (Np w1.i s2)) (Rep.ofT (Ja etp) (Alk (Rep.ofL (Dt f0 e0) ((Lm Yy).mpr ?_)) (Rep.ofL (Dt f1 e1) ((Lm Zi).mpr ?_)) (Rep.ofL (Dt f2 e2) ((Lm Aa1).mpr ?_)))) (h U M J bk)
  ·exact lU.mono fun _ _ ⟨p,z,hp⟩=>⟨p,z,Ja hp⟩
  ·exact lM.mono fun _ _ ⟨p,z,hp⟩=>⟨p,z,Ja hp⟩
  ·exact lJ.mono fun _ _ ⟨p,z,hp⟩=>⟨p,z,Ja hp⟩
theorem AkH (T:Txt K mg t):Binds K t.d_qbd ["_law_script"] []:=T.F_qbd.binds (ps:=["_law_script"]) fun _ _ _ _ _ _ us hl=>match us,hl with | [_],_=>rfl
theorem AhQ (T:Txt K mg t):FnOk P w K mg base CX0 3 t.f_qbd t.d_qbd ["_law_script"] (Yp K):=by
 refine T.F_qbd.ok sc_qbd (fun vs H Q E h=>?_) (fun cdv A outer s H vs Q E hr h=>?_)
 ·obtain ⟨a,ns,rfl,hS,q⟩:=h
  rfl
 ·obtain ⟨a,ns,rfl,hS,q⟩:=h
  have hu:=Co hr
  have hu64:=hr.units
  refine ⟨_,(Be (Bs (i:=1) sc_qbd.nd rfl (Or.inl rfl) (Bn (Ain T) (hr.mono (by decide)) rfl T.m_qbi T.F_qbi.kp (Alx T) .nil Bt (Ba (pv 0) Bc)))
   (Be (Bs (i:=2) sc_qbd.nd rfl (Or.inl rfl) (Bo Cv (Bn (Of T) (hr.mono (by decide)) rfl T.m_qj T.F_qj.kp (Rg T) .nil Bt (Ba (pv 0) (Ba Bf Bc))) (Bo Lb Bf Bf)))
   (Be (Bs (i:=3) sc_qbd.nd rfl (Or.inl rfl) (Bo Ga Bf (Bo Ux (Bo Cv (Bo Fe (Bn (Of T) (hr.mono (by decide)) rfl T.m_qj T.F_qj.kp (Rg T) .nil Bt (Ba (pv 0) (Ba Bf Bc))) Bf) (Bo Lb Bf Bf)) (Bo Cv (Bn (Of T) (hr.mono (by decide)) rfl T.m_qj T.F_qj.kp (Rg T) .nil Bt (Ba (pv 0) (Ba Bf Bc))) Bf))))
   (Be (Bs (i:=4) sc_qbd.nd rfl (Or.inl rfl) (Bn (AiZ T) (hr.mono (by decide)) rfl T.m_qbe T.F_qbe.kp (AkM T) .nil Bt (Ba (pv 1) (Ba (pv 2) (Ba (pv 3) Bc)))))
   (Be (Bs (i:=5) sc_qbd.nd rfl (Or.inl rfl) (Bn (Akd T) (hr.mono (by decide)) rfl T.m_qbb T.F_qbb.kp (Aku T) .nil Bt (Ba (pv 1) (Ba (Bo Cv (Bn (Of T) (hr.mono (by decide)) rfl T.m_qj T.F_qj.kp (Rg T) .nil Bt (Ba (pv 0) (Ba Bf Bc))) (Bo Lb Bf Bf)) Bc))))
   (Be (Bs (i:=6) sc_qbd.nd rfl (Or.inl rfl) (Bn (AiQ T) (hr.mono (by decide)) rfl T.m_qbc T.F_qbc.kp (Alj T) .nil Bt (Ba (pv 5) (Ba (pv 1) (Ba (pv 4) (Ba (Bo Cv (Bn (Of T) (hr.mono (by decide)) rfl T.m_qj T.F_qj.kp (Rg T) .nil Bt (Ba (pv 0) (Ba Bf Bc))) (Bo Lb Bf Bf)) Bc))))))
   (Be (Bs (i:=7) sc_qbd.nd rfl (Or.inl rfl) (Cw (Ba (Dw (Ba (Ca (Du) (pv 1) Bf (fun _ _=>rfl)) (Ba Cr (Ba Bf Bc)))) (Ba (Dw (Ba (Ca (Du) (pv 1) Bf (fun _ _=>rfl)) (Ba Cr (Ba Bf Bc)))) (Ba (Dw (Ba (Ca (Du) (pv 1) Bf (fun _ _=>rfl)) (Ba Cr (Ba Bf Bc)))) Bc)))))
   (Be (Yw 1 ["_law_row"] rfl rfl (Cq (Bo Db (Bo Db (pv 4) (pv 5)) (Di (Dq K) (pv 7) Dy (Da (Bo Cv (Bo Fe (pv 2) Bf) Bf))))) (fun _ _ _ _=>(Br (i:=0) (show List.Nodup (["_law_row"]:List Str) by decide +kernel) rfl (Or.inl rfl))) (fun _ _ _ _=>(Jv (Cl Tt (Ca (Cp K) (pv 0) Bf (fun _ _=>rfl)) Cr (Ck _)))) (fun _ _ _ _=>(pv 0)) (by decide +kernel) (by decide +kernel) rfl (by decide +kernel) (fun _=>rfl) (i:=8) sc_qbd.nd rfl (Or.inl rfl) rfl)
   (Be (Bs (i:=9) sc_qbd.nd rfl (Or.inl rfl) (Bo Cv (pv 2) (Cj (Fn) rfl T.z_len PySem.boot_len (Ba (pv 8) Bc))))
   (Be (Bs (i:=10) sc_qbd.nd rfl (Or.inl rfl) (Di (Dq K) (Cw (Ba (Dw (Ba (Ca (Du) (pv 1) Bf (fun _ _=>rfl)) (Ba (Ca (Du) (pv 1) Bf (fun _ _=>rfl)) Bc))) (Ba (Dw (Ba (Ca (Du) (pv 1) Bf (fun _ _=>rfl)) (Ba (Ca (Du) (pv 1) Bf (fun _ _=>rfl)) Bc))) Bc))) Dy (Da (Bo Cv (Bo Fe (pv 2) Bf) Bf))))
   (Bi (Cc (Dw (Ba (Bo Db (Di (Dq K) (pv 8) (Da (pv 9)) Dy) (Di (Dq K) (pv 8) Dy (Da (pv 9)))) (Ba (pv 10) (Ba (pv 6) Bc)))))))))))))))),?_⟩
  try dsimp only [Ce,By]
  walk_at "rd"
  refine ⟨a,ns,rfl,hS,fun sl H1 hsl s1 esl=>?_⟩
  have hS1:=s1.seq hS
  have hSg:=Ali ns
  generalize sg ns = S at esl hSg
  walk_at "rd"
  refine Dd ⟨by decide,by decide,by decide⟩ ?_
  refine Dd (by show (0:Int) < 10 ^ 18; decide) ?_
  generalize hc2:cel ns 2 % 10 ^ Int.toNat 18 = c2
  have hc20:0 <= c2:=by rw [<- hc2]; exact Int.emod_nonneg _ (by decide)
  walk_at "rd"
  refine Dd ⟨by decide,by decide⟩ ?_
  walk_at "rd"
  refine Dd ⟨by decide,by decide,by decide⟩ ?_
  refine Dd (by show (0:Int) < 10 ^ 29; decide) ?_
  walk_at "rd"
  refine Dd (by show (0:Int) < 2; decide) ?_
  refine Dd (.inr ⟨by omega,by omega⟩) ?_
  have hun:(0:Int) <= cel ns 3 / 2 % 10 ^ Int.toNat 29 * (cel ns 3 % 2):=Int.mul_nonneg (Int.emod_nonneg _ (by decide)) (Int.emod_nonneg _ (by decide))
  generalize cel ns 3 / 2 % 10 ^ Int.toNat 29 * (cel ns 3 % 2) = un at hun
  walk_at "rd"
  refine ⟨sl,S,c2,1 + un,rfl,esl,by omega,fun ml ms Mk H2 hml s2 eml lm mk mk1=>?_⟩
  have nms:ml ≠ sl:=(Bm esl hml).symm
  replace hS1:=Same.seq s2 hS1
  replace esl:=s2 _ _ esl
  replace s1:=Same.trans s1 s2
  walk_at "rd"
  refine Dd ⟨by decide,by decide,by decide⟩ ?_
  refine Dd (by show (0:Int) < 10 ^ 18; decide) ?_
  walk_at "rd"
  refine ⟨sl,S,_,rfl,esl,fun rl rs R0 H3 hrl s3 erl lr bs bs1=>?_⟩
  have nrs:sl ≠ rl:=Bm esl hrl
  have nrm:ml ≠ rl:=Bm eml hrl
  have frl:H rl = none:=s1.free hrl
  replace hS1:=Same.seq s3 hS1
  replace esl:=s3 _ _ esl
  replace eml:=s3 _ _ eml
  replace lm:=LAt.tripS lm s3
  replace s1:=Same.trans s1 s3
  walk_at "rd"
  refine Dd ⟨by decide,by decide,by decide⟩ ?_
  refine Dd (by show (0:Int) < 10 ^ 40; decide) ?_
  walk_at "rd"
  refine ⟨rl,sl,ml,_,S,rs,ms,R0,Mk,rfl,erl,esl,eml,lr,lm,bs1,⟨mk1,mk⟩,bs,nrs,nrm,fun jl js J rs' R H4 k hjl ch4 ejl lj erl4 lr4 jb hk=>?_⟩
  have njl:H jl = none:=s1.free hjl
  replace s1:Same H H4:=s1.chg ch4 frl
  replace esl:=ch4 _ _ esl (by assumption)
  replace eml:=ch4 _ _ eml (by assumption)
  replace lm:=LAt.tripC lm ch4 erl
  clear lr erl ch4
  obtain ⟨jl1,jl2⟩:=jb.len
  have hMl:=mk.ln
  have hBl:=bs.ln
  have hml':ms.length <= 5:=by rw [lm.1]; exact hMl
  have hrl':rs'.length <= 12:=by rw [lr4.1]; omega
  walk_at "rd"
  refine Fk (SqL.of esl) ?_ (v:=.int (S 17)) (Dh (j:=17) (Gx (by omega)))
  walk_at "rd"
  refine ⟨by show 3 <= sizeLine; decide,fun p1 H5 hp1 s5 e5=>?_⟩
  replace esl:=s5 _ _ esl
  walk_at "rd"
  refine Fk (SqL.of esl) ?_ (v:=.int (S 18)) (Dh (j:=18) (Gx (by omega)))
  walk_at "rd"
  refine ⟨by show 3 <= sizeLine; decide,fun p2 H6 hp2 s6 e6=>?_⟩
  replace esl:=s6 _ _ esl
  walk_at "rd"
  refine Fk (SqL.of esl) ?_ (v:=.int (S 19)) (Dh (j:=19) (Gx (by omega)))
  walk_at "rd"
  refine ⟨by show 3 <= sizeLine; decide,fun p3 H7 hp3 s7 e7=>?_⟩
  walk_at "rd"
  refine ⟨by show 3 <= sizeLine; decide,fun ol H8 hol s8 eol=>?_⟩
  have s48:=((s5.trans s6).trans s7).trans s8
  have lo:LAt TripAt H8 [.ref p1,.ref p2,.ref p3] (Fg S):=⟨rfl,fun i x y e1 e2=>by
   match i,e1,e2 with
   | 0,e1,e2=>cases e1; cases e2; exact ⟨p1,rfl,s8 _ _ (s7 _ _ (s6 _ _ e5))⟩
   | 1,e1,e2=>cases e1; cases e2; exact ⟨p2,rfl,s8 _ _ (s7 _ _ e6)⟩
   | 2,e1,e2=>cases e1; cases e2; exact ⟨p3,rfl,s8 _ _ e7⟩
   | _ + 3,e1,_=>simp at e1⟩
  replace esl:=s7 _ _ esl
  replace esl:=s8 _ _ esl
  replace s1:=Same.trans s1 s48
  replace eml:=s48 _ _ eml
  replace lm:=LAt.tripS lm s48
  replace erl4:=s48 _ _ erl4
  replace lr4:=LAt.tripS lr4 s48
  replace ejl:=s48 _ _ ejl
  replace lj:=LAt.trjS lj s48
  clear s5 s6 s7 s8 e5 e6 e7 s48 hp1 hp2 hp3
  walk_at "rd"
  refine Lp ?_
  refine Ae5 ?_
  walk_at "rd"
  walk_at "rd"
  refine Yu eml erl4 (Nat.le_of_lt (Dn (by omega))) fun q1 H9 hq1 s9 e9=>?_
  replace eol:=s9 _ _ eol
  walk_at "rd"
  refine Dd ⟨by decide,by decide⟩ ?_
  walk_at "rd"
  refine Dd (by show (0:Int) < 4; decide) ?_
  walk_at "rd"
  obtain ⟨x,ex⟩:∃ x:Nat,c2 / 3125 % 4 = (x:Int):=⟨(c2 / 3125 % 4).toNat,by omega⟩
  rw [ex]
  walk_at "rd"
  refine Uy (SqL.of eol) Vt fun q2 H10 hq2 s10 e10=>?_
  walk_at "rd"
  walk_at "rd"
  refine Yu (s10 _ _ e9) e10 (Nat.le_of_lt (Dn (by rw [List.length_append,List.length_take]; show ms.length + rs'.length + min x 3 <= 1000; omega))) fun q3 H11 hq3 s11 e11=>?_
  have s911:=(s9.trans s10).trans s11
  replace s1:=Same.trans s1 s911
  replace esl:=s911 _ _ esl
  replace lm:=LAt.tripS lm s911
  replace lr4:=LAt.tripS lr4 s911
  replace lo:=LAt.tripS lo s911
  replace ejl:=s911 _ _ ejl
  replace lj:=LAt.trjS lj s911
  clear s9 s10 s11 s911 e9 e10 eol erl4 eml hq1 hq2
  have lA:=(lm.append lr4).append (lo.take x)
  have hlA:(ms ++ rs' ++ List.take x [V.ref p1,V.ref p2,V.ref p3]).length <= 20:=by rw [List.length_append,List.length_append,List.length_take]; show ms.length + rs'.length + min x 3 <= 20; omega
  refine ⟨q3,rfl,⟨_,SqL.of e11⟩,fun D hD=>CP.list (ms ++ rs' ++ List.take x [V.ref p1,V.ref p2,V.ref p3]) (fun i H2=>Same H11 H2/\∃ ys,H2 D = some (.lst ys)/\LAt TripAt H2 ys (((Mk ++ R ++ (Fg S).take x).take i).filter fun s=>!decide (s.2.1 = "plain"))) ⟨Same.laid hD,[],Bl,LAt.nil⟩ (fun i H2 _ h=>SqL.of (h.1 _ _ e11)) ?_ ?_⟩
  ·rintro n x2 H2 N hn ⟨s2,ys,ey2,ly⟩ hN
   obtain ⟨s,es,pa,rfl,hpa⟩:=lA.get hn
   have hpa2:=s2 _ _ hpa
   have hyl:ys.length <= 20:=by
    have:=(List.getElem?_eq_some_iff.mp hn).1
    rw [ly.1]
    refine Nat.le_trans (List.length_filter_le _ _) ?_
    rw [List.length_take]; omega
   walk_at "cs"
   walk_at "rd"
   refine ⟨rfl,?_⟩
   walk_at "rd"
   refine Tv hpa2 ?_ rfl
   walk_at "rd"
   have et:((Mk ++ R ++ (Fg S).take x).take (n + 1)).filter (fun s:Sg=>!decide (s.2.1 = ("plain" : Str))) = ((Mk ++ R ++ (Fg S).take x).take n).filter (fun s:Sg=>!decide (s.2.1 = ("plain" : Str))) ++ [s].filter (fun s:Sg=>!decide (s.2.1 = ("plain" : Str))):=by rw [Cn es,List.filter_append]
   refine Fi (fun h=>?_) (fun h=>?_)
   ·walk_at "rd"
    refine ⟨ys,ey2,Dn (by omega),hN _ ⟨fun q' o z=>?_,_,Bl,?_⟩⟩
    ·rw [Bg (Bm z hD)]; exact s2 _ _ z
    ·rw [et,List.filter_cons,if_pos h]
     exact LAt.snoc (ly.mono fun u v z=>z.mono fun q' zs w=>by rw [Bg (Dl w ey2 (by intro z; cases z))]; exact w) ⟨pa,rfl,by rw [Bg (Dl hpa2 ey2 (by intro z; cases z))]; exact hpa2⟩
   ·refine hN _ ⟨s2,ys,ey2,?_⟩
    rw [et,List.filter_cons,if_neg h,List.filter_nil,List.append_nil]
    exact ly
  ·rintro H12 ⟨s12,ys,ey,ly⟩
   rw [lA.1,List.take_length] at ly
   replace ly:LAt TripAt H12 ys (Jb S Mk R x):=ly
   have hyl:ys.length <= 20:=by
    rw [ly.1]
    refine Nat.le_trans (List.length_filter_le _ _) ?_
    rw [<- lA.1]; exact hlA
   have hyp:0 < ys.length:=by
    rw [ly.1]
    obtain ⟨m,hm⟩:∃ m,m ∈ Mk:=List.exists_mem_of_ne_nil _ mk1
    refine List.length_pos_of_mem (a:=m) (List.mem_filter.mpr ⟨List.mem_append_left _ (List.mem_append_left _ hm),?_⟩)
    obtain ⟨i,hi⟩:=List.getElem?_of_mem hm
    rw [(mk.at' i m hi).2.1]; decide +kernel
   replace s1:=Same.trans s1 s12
   replace esl:=s12 _ _ esl
   replace ejl:=s12 _ _ ejl
   replace lj:=LAt.trjS lj s12
   clear lA lm lr4 lo e11 s12 hlA
   walk_at "rd"
   refine Dd (by show (0:Int) < (ys.length:Nat); omega) ?_
   obtain ⟨t',et,htl⟩:∃ t':Nat,c2 % (ys.length:Nat) = (t':Int)/\t' < ys.length:=by
    have z1:=Int.emod_nonneg c2 (b:=(ys.length:Nat)) (by omega)
    have z2:=Int.emod_lt_of_pos c2 (b:=(ys.length:Nat)) (by omega)
    exact ⟨(c2 % (ys.length:Nat)).toNat,by omega,by omega⟩
   rw [et]
   walk_at "rd"
   refine Fk (SqL.of esl) ?_ (v:=.int (S 20)) (Dh (j:=20) (Gx (by omega)))
   walk_at "rd"
   refine Fk (SqL.of esl) ?_ (v:=.int (S 21)) (Dh (j:=21) (Gx (by omega)))
   walk_at "rd"
   refine ⟨by show 2 <= sizeLine; decide,fun p1 H13 hp1 s13 e13=>?_⟩
   replace esl:=s13 _ _ esl
   walk_at "rd"
   refine Fk (SqL.of esl) ?_ (v:=.int (S 23)) (Dh (j:=23) (Gx (by omega)))
   walk_at "rd"
   refine Fk (SqL.of esl) ?_ (v:=.int (S 22)) (Dh (j:=22) (Gx (by omega)))
   walk_at "rd"
   refine ⟨by show 2 <= sizeLine; decide,fun p2 H14 hp2 s14 e14=>?_⟩
   walk_at "rd"
   refine ⟨by show 2 <= sizeLine; decide,fun l1 H15 hl1 s15 e15=>?_⟩
   walk_at "rd"
   refine Dd ⟨by decide,by decide⟩ ?_
   walk_at "rd"
   refine Dd (by show (0:Int) < 3; decide) ?_
   walk_at "rd"
   obtain ⟨y,ey3⟩:∃ y:Nat,c2 / 12500 % 3 = (y:Int):=⟨(c2 / 12500 % 3).toNat,by omega⟩
   rw [ey3]
   walk_at "rd"
   refine Uy (SqL.of e15) Vt fun l1' H16 hl1' s16 e16=>?_
   have lM:LAt PairAt H16 [.ref p1,.ref p2] (Gj S):=⟨rfl,fun i x y e1 e2=>by
    match i,e1,e2 with
    | 0,e1,e2=>cases e1; cases e2; exact ⟨p1,rfl,s16 _ _ (s15 _ _ (s14 _ _ e13))⟩
    | 1,e1,e2=>cases e1; cases e2; exact ⟨p2,rfl,s16 _ _ (s15 _ _ e14)⟩
    | _ + 2,e1,_=>simp at e1⟩
   have sAll:=((s13.trans s14).trans s15).trans s16
   have f1:H l1' = none:=(s1.trans ((s13.trans s14).trans s15)).free hl1'
   replace s1:=Same.trans s1 sAll
   replace ey:=sAll _ _ ey
   replace ly:=LAt.tripS ly sAll
   replace ejl:=sAll _ _ ejl
   replace lj:=LAt.trjS lj sAll
   have lM':=lM.take y
   clear sAll lM s13 s14 s15 s16 e13 e14 e15 hp1 hp2 hl1 hl1' esl
   walk_at "rd"
   walk_at "rd"
   refine Uy (SqL.of ey) (Ahr (by omega)) fun q4 H17 hq4 s17 e17=>?_
   walk_at "rd"
   walk_at "rd"
   refine Uy (SqL.of (s17 _ _ ey)) Vt fun q5 H18 hq5 s18 e18=>?_
   walk_at "rd"
   walk_at "rd"
   refine Yu (s18 _ _ e17) e18 (Nat.le_of_lt (Dn (by rw [List.length_drop,List.length_take]; omega))) fun l0 H19 hl0 s19 e19=>?_
   have s1719:=(s17.trans s18).trans s19
   have f0:H l0 = none:=(s1.trans (s17.trans s18)).free hl0
   have l0':LAt TripAt H19 (ys.drop t' ++ ys.take t') (Nq t' (Jb S Mk R x)):=((ly.tripS s1719).drop t').append ((ly.tripS s1719).take t')
   replace s1:=Same.trans s1 s1719
   replace e16:=s1719 _ _ e16
   replace lM':=LAt.pairS lM' s1719
   replace ejl:=s1719 _ _ ejl
   replace lj:=LAt.trjS lj s1719
   clear s17 s18 s19 s1719 e17 e18 hq4 hq5 hl0 ey ly
   walk_at "rd"
   refine ⟨by show 3 <= sizeLine; decide,fun tp H20 htp s20 e20=>?_⟩
   exact q tp l0 l1' jl _ _ js _ _ J H20 (s1.trans s20) e20 (s20 _ _ e19) (s20 _ _ e16) (s20 _ _ ejl) (l0'.tripS s20) (lM'.pairS s20) (lj.trjS s20) f0 f1 njl (AeR hSg mk mk1 bs jb hk)
  all_goals decide
def Ae1:PSp:=fun ps P=>∃ U M J cs,ps = [.lst (List.map .int cs),.tup [.lst (List.map sgP U),.lst (List.map prP M),.lst (List.map jnP J)]]/\Fq U M J/\cs.length <= 63/\∀ ts:List Int,ts.length = cs.length->P (.lst (List.map .int ts))
theorem AfG (T:Txt K mg t):Binds K t.d_qbo ["_law_cells","_law_lists_here"] []:=T.F_qbo.binds (ps:=["_law_cells","_law_lists_here"]) fun _ _ _ _ _ _ us hl=>match us,hl with | [_,_],_=>rfl
theorem Aco (T:Txt K mg t):FnOk P w K mg base CX0 1 t.f_qbo t.d_qbo ["_law_cells","_law_lists_here"] (spOf K t.C_Book [false,false] .fr Ae1):=by
 refine T.F_qbo.ok sc_qbo (fun vs H Q E h=>h.len) (fun cdv A outer s H vs Q E hr h=>?_)
 have hu:=Co hr
 have hu64:=hr.units
 refine ⟨_,(Be (Bs (i:=2) sc_qbo.nd rfl (Or.inl rfl) (Bo Db (Lg 1 ["_law_row"] rfl rfl (Cq (Ca (Cp K) (pv 1) Bf (fun _ _=>rfl))) (fun _ _ _ _=>(Br (i:=0) (show List.Nodup (["_law_row"]:List Str) by decide +kernel) rfl (Or.inl rfl))) (fun _ _ _ _=>(Jv (Cl Tt (Ca (Cp K) (pv 0) Bf (fun _ _=>rfl)) Cr (Ck _)))) (fun _ _ _ _=>(Ca (Cp K) (pv 0) Bf (fun _ _=>rfl))) (by decide +kernel) (by decide +kernel) rfl (by decide +kernel)) (Lg 1 ["_law_join"] rfl rfl (Cq (Ca (Cp K) (pv 1) Bf (fun _ _=>rfl))) (fun _ _ _ _=>(Br (i:=0) (show List.Nodup (["_law_join"]:List Str) by decide +kernel) rfl (Or.inl rfl))) (fun _ _ _ _=>Gp) (fun _ _ _ _=>(Ca (Cp K) (pv 0) Bf (fun _ _=>rfl))) (by decide +kernel) (by decide +kernel) rfl (by decide +kernel))))
   (Be (Bs (i:=2) sc_qbo.nd rfl (Or.inl rfl) (Bo Db (pv 2) (Lg 1 ["_law_join"] rfl rfl (Cq (Ca (Cp K) (pv 1) Bf (fun _ _=>rfl))) (fun _ _ _ _=>(Br (i:=0) (show List.Nodup (["_law_join"]:List Str) by decide +kernel) rfl (Or.inl rfl))) (fun _ _ _ _=>Gp) (fun _ _ _ _=>(Ca (Cp K) (pv 0) Bf (fun _ _=>rfl))) (by decide +kernel) (by decide +kernel) rfl (by decide +kernel))))
   (Be (Yw 1 ["_law_row"] rfl rfl (Cq (Ca (Cp K) (pv 1) Bf (fun _ _=>rfl))) (fun _ _ _ _=>(Br (i:=0) (show List.Nodup (["_law_row"]:List Str) by decide +kernel) rfl (Or.inl rfl))) (fun _ _ _ _=>(Jv (Cl Fo (Ca (Cp K) (pv 0) Bf (fun _ _=>rfl)) Cr (Ck _)))) (fun _ _ _ _=>(Ca (Cp K) (pv 0) Bf (fun _ _=>rfl))) (by decide +kernel) (by decide +kernel) rfl (by decide +kernel) (fun _=>rfl) (i:=3) sc_qbo.nd rfl (Or.inl rfl) rfl)
   (Be (Df PassesOwn.never rfl (Cq (Ca (Cp K) (pv 1) Bf (fun _ _=>rfl))) (Br (i:=4) sc_qbo.nd rfl (Or.inl rfl))
    (Bi (Bs (i:=2) sc_qbo.nd rfl (Or.inl rfl) (Bo Db (pv 2) (Cw (Ba (Ca (Cp K) (pv 4) Bf (fun _ _=>rfl)) (Ba (Ca (Cp K) (pv 4) Bf (fun _ _=>rfl)) Bc)))))))
   (Be (Bs (i:=5) sc_qbo.nd rfl (Or.inl rfl) (Cw Bc))
   (Be (Df PassesOwn.never rfl (Cq (pv 0)) (Br (i:=6) sc_qbo.nd rfl (Or.inl rfl))
    (Bi (Fj (PW.pt (Xo (Cl Fo (Bo Cv (pv 6) Bf) Bf (Ck _)) (Vp (PW.pt (Va (Cl Fo (Cj (Cu K) rfl T.z_len PySem.boot_len (Ba (pv 2) Bc)) Bf (Ck _)) (Tr (Cl Fo (Bo Cv (pv 6) Bf) Bf (Ck _))))))))
    (Bi (Cg (Gk PySem.F.plainAttrs_list PySem.F.slot_list_append PySem.F.type_list_append Fd (pv 5) (Ba (Bo Cv (Bo Fe (pv 6) Bf) (Bo Lb Bf Bf)) Bc))))
    (Bi (Fj (Cl Fo (Bo Cv (pv 6) Bf) Bf (Ck _))
    (Bi (Cg (Gk PySem.F.plainAttrs_list PySem.F.slot_list_append PySem.F.type_list_append Fd (pv 5) (Ba (Ca (Do K) (pv 2) (Bo Cv (Bo Fe (pv 6) Bf) (Cj (Cu K) rfl T.z_len PySem.boot_len (Ba (pv 2) Bc))) (fun _ _=>rfl)) Bc))))
    (Bi (Cg (Gk PySem.F.plainAttrs_list PySem.F.slot_list_append PySem.F.type_list_append Fd (pv 5) (Ba (Ca (Do K) (pv 3) (Bo Cv (Bo Fe (pv 6) Bf) (Cj (Cu K) rfl T.z_len PySem.boot_len (Ba (pv 3) Bc))) (fun _ _=>rfl)) Bc)))))))))
   (Bi (Cc (pv 5))))))))),?_⟩
 try dsimp only [Ce,By]
 refine Dr h (by decide) (Bv (Cs (EF.eu (Dx (EF.eb (Gc (EU.eb (Cz Bb (EU.eb Bq))) (Ch (top:=1)) (Fl (EU.eb (AbX (EU.eb (Cz Bb (EU.eb Bq))) (EU.eb Qn)))) (Cz Bb (EU.eb Bq)))) (EF.eb (Gc (EU.eb (Cz Bb (EU.eb Bq))) (Ch (top:=1)) Jf (Cz Bb (EU.eb Bq)))))))
   (Bv (Cs (EF.eu (Dx Bb (EF.eb (Gc (EU.eb (Cz Bb (EU.eb Bq))) (Ch (top:=1)) Jf (Cz Bb (EU.eb Bq)))))))
   (Bv (Cs (EF.eu (Gc (EU.eb (Cz Bb (EU.eb Bq))) (Ch (top:=1)) (Fl (EU.eb (Jp (EU.eb (Cz Bb (EU.eb Bq))) (EU.eb Qn)))) (Cz Bb (EU.eb Bq)))))
   (Bv (Qg (Cz Bb (EU.eb Bq)) (Ch (top:=7))
    (Cs (EF.eu (Dx Bb (EF.eb (Fm 2 (Dg (Cz Bb (EU.eb Bq)) (Dg (Cz Bb (EU.eb Bq)) Bp))))))))
   (Bv (Jd (Fm 0 Bp))
   (Bv (AaT (Ch (top:=7))
    (Je (AgC (Fl (EU.eb (Jp (EU.eb (Fx (fun _ _ _=>.int _) Bb (EU.eb Bq))) (EU.eb Bq)))) (Vf (Fl (EU.eb (Jp (EU.eb (Fz (Bx Bb Bp))) (EU.eb Bq)))) (Fl (EU.eb (Jp (EU.eb (Fx (fun _ _ _=>.int _) Bb (EU.eb Bq))) (EU.eb Bq))))))
    (Xp (Dg (Fx (fun _ _ _=>.int _) (EU.eb (Fx (fun _ _ _=>.int _) Bb (EU.eb Bq))) (EU.eb (Fx (fun _ _ _=>.int _) (EU.eb Bq) (EU.eb Bq)))) Bp))
    (Je (Fl (EU.eb (Jp (EU.eb (Fx (fun _ _ _=>.int _) Bb (EU.eb Bq))) (EU.eb Bq))))
    (Xp (Dg (Fs Bb (EU.eb (Fx (fun _ _ _=>.int _) (EU.eb (Fx (fun _ _ _=>.int _) Bb (EU.eb Bq))) (EU.eb (Fz (Bx Bb Bp)))))) Bp))
    (Xp (Dg (Fs Bb (EU.eb (Fx (fun _ _ _=>.int _) (EU.eb (Fx (fun _ _ _=>.int _) Bb (EU.eb Bq))) (EU.eb (Fz (Bx Bb Bp)))))) Bp)))))
   Oh)))))) (fun ps P hp=>?_)
 clear h hu hu64 hr
 obtain ⟨U,M,J,cs,rfl,bk,hl,q⟩:=hp
 simp only [Fc,List.zipWith_cons_cons,List.zipWith_nil_left,List.zipWith_nil_right,List.length_cons,List.length_nil,Nat.zero_add,Nat.reduceAdd,Nat.reduceSub,List.replicate_succ,List.replicate_zero,Bool.false_eq_true,if_false,if_true,List.cons_append,List.nil_append,Gs]
 have Ul:U.length + 2 * M.length <= 60:=bk.ln
 have Jl:=bk.jl
 walk_at "pr"
 refine ⟨by rw [List.length_map]; omega,?_⟩
 refine Fu (f:=fun s:Sg=>if (!decide (s.2.1 = "mark")) = true then some (.int s.1) else none) ?_ (fun d hd Z hZ=>?_)
 rotate_left
 ·walk_at "pr"
  refine Fi (fun h=>?_) (fun h=>?_)
  ·rw [if_pos h] at hZ
   walk_at "pr"
   exact hZ
  ·rw [if_neg h] at hZ
   exact hZ
 rw [Fv]
 walk_at "pr"
 refine ⟨by rw [List.length_map]; omega,?_⟩
 refine Fu (f:=fun s:Jn=>some (.int s.1)) ?_ (fun d hd Z hZ=>?_)
 rotate_left
 ·walk_at "pr"
  exact hZ
 rw [Lv,Ach (g:=fun s:Sg=>s.1)]
 walk_at "pr"
 rotate_left
 ·have:=List.length_filter_le (fun s:Sg=>!decide (s.2.1 = "mark")) U
  simp only [List.length_map]; omega
 rw [<- List.map_append]
 refine ⟨by rw [List.length_map]; omega,?_⟩
 refine Fu (f:=fun s:Jn=>some (.int s.2.1)) ?_ (fun d hd Z hZ=>?_)
 rotate_left
 ·walk_at "pr"
  exact hZ
 rw [Lv]
 have l1:(List.map (fun s:Sg=>s.1) (U.filter fun s=>!decide (s.2.1 = "mark")) ++ J.map (·.1)).length <= 67:=by
  have:=List.length_filter_le (fun s:Sg=>!decide (s.2.1 = "mark")) U
  simp only [List.length_append,List.length_map]; omega
 generalize (List.map (fun s:Sg=>s.1) (U.filter fun s=>!decide (s.2.1 = "mark")) ++ J.map (·.1)) = xs at l1
 walk_at "pr"
 rotate_left
 ·simp only [List.length_map]; omega
 rw [<- List.map_append]
 have l2:(xs ++ J.map (·.2.1)).length <= 74:=by
  simp only [List.length_append,List.length_map]; omega
 generalize xs ++ J.map (·.2.1) = ys at l2
 refine ⟨by rw [List.length_map]; omega,?_⟩
 refine Fu (f:=fun s:Sg=>if (decide (s.2.1 = "mark")) = true then some (.int s.1) else none) ?_ (fun d hd Z hZ=>?_)
 rotate_left
 ·walk_at "pr"
  refine Fi (fun h=>?_) (fun h=>?_)
  ·rw [if_pos h] at hZ
   walk_at "pr"
   exact hZ
  ·rw [if_neg h] at hZ
   exact hZ
 rw [Fv,Ach (g:=fun s:Sg=>s.1)]
 have l3:0 < (List.map (fun s:Sg=>s.1) (U.filter fun s=>decide (s.2.1 = "mark"))).length:=by
  obtain ⟨s,hs,e⟩:=bk.mr
  rw [List.length_map]
  exact List.length_pos_of_mem (List.mem_filter.mpr ⟨hs,by simpa using e⟩)
 generalize List.map (fun s:Sg=>s.1) (U.filter fun s=>decide (s.2.1 = "mark")) = ks at l3
 walk_at "pr"
 refine ⟨fun k ρ=>∃ (zs:List Int) (v4 v5 v6:Sl),ρ = [.bo (.lst (cs.map .int)),.bo (.tup [.lst (U.map sgP),.lst (M.map prP),.lst (J.map jnP)]),.sh (.lst (zs.map .int)),.sh (.lst (ks.map .int)),v4,v5,v6]/\zs.length <= 74 + 2 * k,⟨ys,_,_,_,rfl,by omega⟩,?_,?_⟩
 ·rintro k p ρ hp ⟨zs,v4,v5,v6,rfl,lz⟩
  rw [List.getElem?_map] at hp
  obtain ⟨m,hm,rfl⟩:=Option.map_eq_some_iff.mp hp
  have hk:k < M.length:=(List.getElem?_eq_some_iff.mp hm).1
  walk_at "pr"
  rotate_left
  ·simp only [List.length_map,List.length_cons,List.length_nil]; omega
  exact ⟨zs ++ [m.1,m.2],_,_,_,by rw [List.map_append]; rfl,by simp only [List.length_append,List.length_cons,List.length_nil]; omega⟩
 rintro ρ ⟨zs,v4,v5,v6,rfl,lz⟩
 walk_at "pr"
 refine ⟨fun k ρ=>∃ (ts:List Int) (v4 v6:Sl),ρ = [.bo (.lst (cs.map .int)),.bo (.tup [.lst (U.map sgP),.lst (M.map prP),.lst (J.map jnP)]),.sh (.lst (zs.map .int)),.sh (.lst (ks.map .int)),v4,.ow (.lst (ts.map .int)),v6]/\ts.length = k,⟨[],_,_,rfl,rfl⟩,?_,?_⟩
 ·rintro k p ρ hp ⟨ts,v4,v6,rfl,lt⟩
  rw [List.getElem?_map] at hp
  obtain ⟨c,hc,rfl⟩:=Option.map_eq_some_iff.mp hp
  have hk:k < cs.length:=(List.getElem?_eq_some_iff.mp hc).1
  have put:∀ x:Int,∃ (ts':List Int) (v4' v6':Sl),([.bo (.lst (cs.map .int)),.bo (.tup [.lst (U.map sgP),.lst (M.map prP),.lst (J.map jnP)]),.sh (.lst (zs.map .int)),.sh (.lst (ks.map .int)),v4,.ow (.lst (ts.map .int ++ [.int x])),.sh (.int c)]:Bh) = [.bo (.lst (cs.map .int)),.bo (.tup [.lst (U.map sgP),.lst (M.map prP),.lst (J.map jnP)]),.sh (.lst (zs.map .int)),.sh (.lst (ks.map .int)),v4',.ow (.lst (ts'.map .int)),v6']/\ts'.length = k + 1:=fun x=>⟨ts ++ [x],v4,.sh (.int c),by rw [List.map_append]; rfl,by simp [lt]⟩
  have ixA:∀ (l:List Int),0 < l.length->∃ x:Int,L2.atI (l.map PV.int) (c / 18 % (l.length:Int)) = some (.int x):=fun l h0=>by
   have h1:=Int.emod_nonneg (c / 18) (show (l.length:Int) ≠ 0 by omega)
   have h2:=Int.emod_lt_of_pos (c / 18) (show (0:Int) < l.length by omega)
   obtain ⟨j,hj⟩:=Int.eq_ofNat_of_zero_le h1
   rw [hj] at h2 ⊢
   have h3:j < l.length:=by omega
   exact ⟨l[j],Dh (by rw [List.getElem?_map,List.getElem?_eq_getElem h3]; rfl)⟩
  walk_at "pr"
  rotate_left
  ·decide
  have mrk:∀ P:PV->Prop,(∀ x:Int,P (.int x))->Zn (.lst (ks.map .int)) (.int (c / 18 % ((ks.map PV.int).length:Int))) P:=fun P h=>by
   obtain ⟨x,hx⟩:=ixA ks l3
   rw [List.length_map]
   exact Age hx (h x)
  refine Fi (fun h=>?_) (fun h=>?_)
  ·walk_at "pr"
   all_goals try (first | decide | exact ⟨by decide,by decide⟩ | exact ⟨by decide,by decide,by decide⟩ | (rw [List.length_map]; omega))
   exact put _
  ·walk_at "pr"
   refine Fi (fun h1=>?_) (fun h1=>?_)
   ·walk_at "pr"
    all_goals try (first | decide | exact ⟨by decide,by decide⟩ | exact ⟨by decide,by decide,by decide⟩ | (rw [List.length_map]; omega))
    refine Fi (fun h2=>?_) (fun h2=>?_)
    ·walk_at "pr"
     all_goals try (first | decide | exact ⟨by decide,by decide⟩ | exact ⟨by decide,by decide,by decide⟩ | (rw [List.length_map]; omega))
     exact put _
    ·walk_at "pr"
     all_goals try (first | decide | exact ⟨by decide,by decide⟩ | exact ⟨by decide,by decide,by decide⟩ | (rw [List.length_map]; omega))
     rw [if_neg h2]
     walk_at "pr"
     all_goals try (first | decide | exact ⟨by decide,by decide⟩ | exact ⟨by decide,by decide,by decide⟩ | (rw [List.length_map]; omega))
     all_goals try (rw [List.length_map]; exact Int.natCast_pos.mpr l3)
     refine mrk _ fun x=>?_
     walk_at "pr"
     all_goals try (first | decide | exact ⟨by decide,by decide⟩ | exact ⟨by decide,by decide,by decide⟩ | (rw [List.length_map]; omega))
     exact put _
   ·walk_at "pr"
    all_goals try (first | decide | exact ⟨by decide,by decide⟩ | exact ⟨by decide,by decide,by decide⟩ | (rw [List.length_map]; omega))
    refine Fi (fun h2=>?_) (fun h2=>?_)
    ·have zp:0 < zs.length:=by
      rcases Nat.eq_zero_or_pos zs.length with z | z
      ·exact absurd (decide_eq_true (by rw [List.length_map,z]; rfl)) h1
      ·exact z
     walk_at "pr"
     all_goals try (first | decide | exact ⟨by decide,by decide⟩ | exact ⟨by decide,by decide,by decide⟩ | (rw [List.length_map]; omega))
     all_goals try (rw [List.length_map]; exact Int.natCast_pos.mpr zp)
     obtain ⟨x,hx⟩:=ixA zs zp
     rw [List.length_map]
     refine Age hx ?_
     walk_at "pr"
     all_goals try (first | decide | exact ⟨by decide,by decide⟩ | exact ⟨by decide,by decide,by decide⟩ | (rw [List.length_map]; omega))
     exact put _
    ·walk_at "pr"
     all_goals try (first | decide | exact ⟨by decide,by decide⟩ | exact ⟨by decide,by decide,by decide⟩ | (rw [List.length_map]; omega))
     all_goals try (rw [List.length_map]; exact Int.natCast_pos.mpr l3)
     refine mrk _ fun x=>?_
     walk_at "pr"
     all_goals try (first | decide | exact ⟨by decide,by decide⟩ | exact ⟨by decide,by decide,by decide⟩ | (rw [List.length_map]; omega))
     exact put _
 rintro ρ ⟨ts,v4,v6,rfl,lt⟩
 rw [List.length_map] at lt
 walk_at "pr"
 exact q ts lt
local macro_rules | `(tactic| walk_at "u")=>`(tactic| with_reducible refine Acn (by assumption) ?_)
local macro_rules | `(tactic| walk_at "u")=>`(tactic| with_reducible refine Vc (by assumption) Aec ?_)
theorem AlW (T:Txt K mg t):Binds K t.d_qw ["self","sign"] []:=T.F_qw.binds (ps:=["self","sign"]) fun _ _ _ _ _ _ us hl=>match us,hl with | [_,_],_=>rfl
theorem Alg (T:Txt K mg t):FnOk P w K mg base CX0 2 t.f_qw t.d_qw ["self","sign"] (Aau t.C_Book):=by
 refine T.F_qw.ok AkI (fun vs H Q E h=>?_) (fun cdv A outer s H vs Q E hr h=>?_)
 ·obtain ⟨b,n,k,r,m,p,w,rfl,⟨dx,dk,dr,dm,dp,dw,h1,h2,h3,h4,h5,h6⟩,q⟩:=h
  rfl
 ·obtain ⟨b,n,k,r,m,p,w,rfl,⟨dx,dk,dr,dm,dp,dw,h1,h2,h3,h4,h5,h6⟩,q⟩:=h
  have hu:=Co hr
  have hu64:=hr.units
  refine ⟨_,(Bi (Cc (Bn (Xl T) (hr.mono (by decide)) rfl T.m_qp T.F_qp.kp (Abo T) .nil Bt (Ba (Sw (pv 0) rfl) (Ba (pv 1) Bc))))),?_⟩
  try dsimp only [Ce,By]
  walk_at "rd"
  refine ⟨b,_,_,_,_,rfl,h1,T.cl_Book,T.n_Book_kinds,AcH,?_⟩
  walk_at "rd"
  exact q
def Ac7 (K:PySem.W.Frag) (C:Addr):Sp:=fun vs H Q _=>∃ b l U M r m p w ts,vs = [.ref b,.ref l]/\BookAt C H b (kK U ++ kM M) r m p w/\SqL K H l (List.map V.int ts)/\ts.length <= 300 /\
 ∀ (wl:Addr) (xs:List V) (H':Hp),H wl = none->Same H H'->(∀ x ∈ xs,∃ p,x = V.ref p/\H p = none)->LLat H' wl xs (grp (Bw U M) ts)->Q (.ref wl) H'
-- EU_WOF
def AgK:PSp:=fun ps P=>∃ U M J ts,ps = [.bk U M J,.lst (List.map .int ts)]/\ts.length <= 300/\P (.lst (List.map (fun g=>PV.lst (List.map .int g)) (grp (Bw U M) ts)))
theorem Zw {C:Addr} {ω:Om} {E:XK} {m n:Bool} {t:TA} {u:UA} (ha:AU K C ω [m,n] t u):EU K C ω (Oz (Ac7 K C) [] E t) (Qz AgK u) :=
 fun B G0 H0 own G σ H ρ P Q S hu k=>ha B G0 H0 own G σ H ρ _ _ S hu fun vs ps G1 H1 w1 ok ⟨U,M,J,ts,e,hl,h⟩=>by
  obtain ⟨v,w,p,q,rfl,e2,r1,r2⟩:=Ub ok
  rw [e] at e2; cases e2
  obtain ⟨b,kvs,rfl,bk,_⟩:=r1.bk
  obtain ⟨a,xs,rfl,ea,l⟩:=r2.lst w1.i
  rw [Tc l] at ea
  refine ⟨b,a,U,M,_,_,_,_,ts,rfl,bk.mono fun _ _ e _=>w1.i _ _ e,SqL.of ea,hl,fun wl xs H2 hwl s2 fx ll=>?_⟩
  refine k _ _ _ H2 (w1.trans (Np w1.i s2)) (Rep.ofL (Dt hwl ll.li) ⟨by rw [ll.at'.1,List.length_map],fun i x y hx hy=>?_⟩) h
  rw [List.getElem?_map] at hy
  obtain ⟨g,hg,rfl⟩:=Option.map_eq_some_iff.mp hy
  obtain ⟨p,e1,hp⟩:=ll.at'.2 i x g hx hg
  obtain ⟨p',e2,hn⟩:=fx x (List.mem_of_getElem? hx)
  subst e1
  cases e2
  exact Rep.ofL (Dt hn hp) (Ff g)
theorem Ab0 (T:Txt K mg t):Binds K t.d_qbm ["book","text"] []:=T.F_qbm.binds (ps:=["book","text"]) fun _ _ _ _ _ _ us hl=>match us,hl with | [_,_],_=>rfl
theorem Yk (T:Txt K mg t):FnOk P w K mg base CX0 3 t.f_qbm t.d_qbm ["book","text"] (Ac7 K t.C_Book):=by
 refine T.F_qbm.ok sc_qbm (fun vs H Q E h=>?_) (fun cdv A outer s H vs Q E hr h=>?_)
 ·obtain ⟨b,l,U,M,r,m,pp,w,ts,rfl,hB,hT,hl,q⟩:=h
  rfl
 ·obtain ⟨b,l,U,M,r,m,pp,w,ts,rfl,hB,hT,hl,q⟩:=h
  have hu:=Co hr
  have hu64:=hr.units
  refine ⟨_,(Be (Bs (i:=2) sc_qbm.nd rfl (Or.inl rfl) (Cw Bc))
   (Be (Df PassesOwn.never rfl (Cq (pv 1)) (Br (i:=3) sc_qbm.nd rfl (Or.inl rfl))
    (Be (Fj (PW.pt (Xo (Cl Fo (Cj (Fn) rfl T.z_len PySem.boot_len (Ba (pv 2) Bc)) Bf (Ck _)) (Vp (Cl Tt (To (pv 0) T.cl_Book T.M_qw (Alg T) (hr.mono (by decide)) (AlW T) .nil Bt (Ba (pv 3) Bc)) Cr (Ck _)))))
    (Bi (Cg (Gk PySem.F.plainAttrs_list PySem.F.slot_list_append PySem.F.type_list_append Fd (pv 2) (Ba (Cw Bc) Bc))))
    Dm)
   (Bi (Cg (Gk PySem.F.plainAttrs_list PySem.F.slot_list_append PySem.F.type_list_append Fd (Ca (Du) (pv 2) (AfY Ac9 Bf) (fun _ _=>rfl)) (Ba (pv 3) Bc))))))
   (Bi (Cc (pv 2))))),?_⟩
  try dsimp only [Ce,By]
  walk_at "rd"
  refine ⟨by decide,fun wl H0 hwl s0 e0=>?_⟩
  walk_at "rd"
  refine Lz (i:=1) rfl (s0.seq hT) (fun i σ H'=>∃ v3 xs,σ = [some (.ref b),some (.ref l),some (.ref wl),v3]/\Same H H'/\(∀ x ∈ xs,∃ p,x = V.ref p/\H p = none)/\LLat H' wl xs (grp (Bw U M) (ts.take i))) ⟨none,[],rfl,s0,(fun x h=>by cases h),⟨e0,LAt.nil,List.nodup_nil,by simp⟩⟩ (fun i σ H' _ ⟨_,_,_,s,_⟩=>s.seq hT) ?_ ?_
  ·rintro i x σ H' hi ⟨v3,xs,rfl,s,fx,ll⟩
   obtain ⟨n,en,rfl⟩:=Zf hi
   have hlt:=(List.getElem?_eq_some_iff.mp en).1
   have eg:grp (Bw U M) (ts.take (i + 1)) = Nf (Bw U M) (grp (Bw U M) (ts.take i)) n:=by rw [Cn en,Aae]
   have hli:=ll.li
   have hxl:xs.length <= 300:=by
    have:=(Fw (Bw U M) (ts.take i)).ln
    rw [<- ll.at'.1,List.length_take] at this
    omega
   have hB':=hB.mono (H':=H') fun _ _ e _=>s _ _ e
   walk_at "rd"
   refine Fi (fun h=>?_) (fun h=>?_)
   ·have hz:grp (Bw U M) (ts.take i) = []\/Bw U M n = false:=.inl (List.eq_nil_of_length_eq_zero (by
     have h':((xs.length:Nat):Int) = 0:=of_decide_eq_true h
     rw [<- ll.at'.1]; omega))
    refine Jr ?_
    walk_at "rd"
    refine ⟨by decide,fun p H2 hp s2 e2=>?_⟩
    walk_at "rd"
    walk_at "rd"
    refine Ds (s2 _ _ hli) (Dn (by omega)) fun H3 c3 e3=>?_
    have npw:p ≠ wl:=(Bm hli hp).symm
    have e2':=c3 _ _ e2 npw
    walk_at "rd"
    refine Fk (SqL.of e3) ?_ (Lj _ _)
    walk_at "rd"
    walk_at "rd"
    refine Ds e2' (by decide) fun H4 c4 e4=>?_
    walk_at "rd"
    refine ⟨_,_,rfl,((s.trans s2).chg c3 hwl).chg c4 (s.free hp),fun x hx=>?_,by rw [eg,Ln (by assumption)]; exact ll.push hp s2 c3 e3 c4 e4⟩
    rcases List.mem_append.mp hx with w | w
    ·exact fx x w
    ·exact ⟨p,List.mem_singleton.mp w,s.free hp⟩
   ·have h':¬ ((xs.length:Nat):Int) = 0:=fun z=>h (decide_eq_true z)
    walk_at "rd"
    rw [AbR]
    walk_at "rd"
    refine Fi (fun h2=>?_) (fun h2=>?_)
    ·have hz:grp (Bw U M) (ts.take i) = []\/Bw U M n = false:=.inr (by
      unfold Bw
      simpa using h2)
     walk_at "rd"
     refine ⟨by decide,fun p H2 hp s2 e2=>?_⟩
     walk_at "rd"
     walk_at "rd"
     refine Ds (s2 _ _ hli) (Dn (by omega)) fun H3 c3 e3=>?_
     have npw:p ≠ wl:=(Bm hli hp).symm
     have e2':=c3 _ _ e2 npw
     walk_at "rd"
     refine Fk (SqL.of e3) ?_ (Lj _ _)
     walk_at "rd"
     walk_at "rd"
     refine Ds e2' (by decide) fun H4 c4 e4=>?_
     walk_at "rd"
     refine ⟨_,_,rfl,((s.trans s2).chg c3 hwl).chg c4 (s.free hp),fun x hx=>?_,by rw [eg,Ln (by assumption)]; exact ll.push hp s2 c3 e3 c4 e4⟩
     rcases List.mem_append.mp hx with w | w
     ·exact fx x w
     ·exact ⟨p,List.mem_singleton.mp w,s.free hp⟩
    ·have hm:Bw U M n = true:=by
      unfold Bw
      simpa using h2
     obtain ⟨xs',p,gs',g,rfl,eg',hp⟩:=ll.last (fun z=>h' (by rw [ll.at'.1,z]; rfl))
     rw [eg'] at ll eg
     have hgl:g.length <= 300:=by
      have z:=(Fw (Bw U M) (ts.take i)).fl
      rw [eg'] at z
      have:=congrArg List.length z
      simp at this
      omega
     walk_at "rd"
     refine Fk (SqL.of hli) ?_ (Lj _ _)
     walk_at "rd"
     walk_at "rd"
     refine Ds hp (Dn (by rw [List.length_map]; omega)) fun H4 c4 e4=>?_
     walk_at "rd"
     have fp:H p = none:=by
      obtain ⟨p',e,z⟩:=fx _ (List.mem_append_right _ List.mem_cons_self)
      cases e; exact z
     exact ⟨_,_,rfl,s.chg c4 fp,fx,by rw [eg,Rb hm]; exact ll.add c4 e4⟩
  ·rintro σ H' ⟨v3,xs,rfl,s,fx,ll⟩
   rw [List.length_map,List.take_length] at ll
   walk_at "rd"
   exact q wl xs H' hwl s fx ll
local macro_rules | `(tactic| walk_at "u")=>`(tactic| with_reducible refine u_sp_parts (by assumption) ?_)
local macro_rules | `(tactic| walk_at "u")=>`(tactic| with_reducible refine Vc (by assumption) Wu ?_)
theorem AjF (T:Txt K mg t):Binds K t.d_qm ["self","sign"] []:=T.F_qm.binds (ps:=["self","sign"]) fun _ _ _ _ _ _ us hl=>match us,hl with | [_,_],_=>rfl
theorem AfU (T:Txt K mg t):FnOk P w K mg base CX0 1 t.f_qm t.d_qm ["self","sign"] (Aab t.C_Book):=by
 refine T.F_qm.ok Akq (fun vs H Q E h=>?_) (fun cdv A outer s H vs Q E hr h=>?_)
 ·obtain ⟨b,n,k,r,m,p,w,rfl,⟨dx,dk,dr,dm,dp,dw,h1,h2,h3,h4,h5,h6⟩,q⟩:=h
  rfl
 ·obtain ⟨b,n,k,r,m,p,w,rfl,⟨dx,dk,dr,dm,dp,dw,h1,h2,h3,h4,h5,h6⟩,q⟩:=h
  have hu:=Co hr
  have hu64:=hr.units
  refine ⟨_,(Bi (Cc (Aev hu (Sw (pv 0) rfl) (pv 1) ⟨rfl,rfl,rfl,rfl⟩))),?_⟩
  try dsimp only [Ce,By]
  walk_at "rd"
  refine ⟨b,_,_,_,_,rfl,h1,T.cl_Book,T.n_Book_pairs,AdC,?_⟩
  walk_at "rd"
  exact q
def Air:PSp:=fun ps P=>∃ U M J s,ps = [.bk U M J,.int s]/\(∀ s,EndN J 7 s)/\P (.lst (List.map .int (opn J 7 s)))
theorem AiS (T:Txt K mg t):Binds K t.d_ql ["book","sign"] []:=T.F_ql.binds (ps:=["book","sign"]) fun _ _ _ _ _ _ us hl=>match us,hl with | [_,_],_=>rfl
theorem Af9 (T:Txt K mg t):FnOk P w K mg base CX0 2 t.f_ql t.d_ql ["book","sign"] (spOf K t.C_Book [false,true] .fr Air):=by
 refine T.F_ql.ok sc_ql (fun vs H Q E h=>h.len) (fun cdv A outer s H vs Q E hr h=>?_)
 have hu:=Co hr
 have hu64:=hr.units
 refine ⟨_,(Be (Bs (i:=2) sc_ql.nd rfl (Or.inl rfl) (pv 1))
   (Be (Bs (i:=3) sc_ql.nd rfl (Or.inl rfl) (Cw Bc))
   (Be (Bs (i:=4) sc_ql.nd rfl (Or.inl rfl) (To (pv 0) T.cl_Book T.M_qm (AfU T) (hr.mono (by decide)) (AjF T) .nil Bt (Ba (pv 2) Bc)))
   (Be (Zs PassesOwn.never (Vm (Aaw (pv 4)))
    (Be (Bs (i:=2) sc_ql.nd rfl (Or.inl rfl) (Ca (Cp K) (pv 4) Bf (fun _ _=>rfl)))
   (Be (Bs (i:=3) sc_ql.nd rfl (Or.inl rfl) (Bo Db (Cw (Ba (Ca (Cp K) (pv 4) Bf (fun _ _=>rfl)) Bc)) (pv 3)))
   (Bi (Bs (i:=4) sc_ql.nd rfl (Or.inl rfl) (To (pv 0) T.cl_Book T.M_qm (AfU T) (hr.mono (by decide)) (AjF T) .nil Bt (Ba (pv 2) Bc)))))))
   (Bi (Cc (Bo Db (Cw (Ba (pv 2) Bc)) (pv 3)))))))),?_⟩
 try dsimp only [Ce,By]
 refine Dr h (by decide) (Bv (Cs De)
   (Bv (Cs (EF.eu (Fm 0 Bp)))
   (Bv (Cs (Xy Bb Bb))
   (Bv (Xw (Fl (EU.eb (AaE Bb)))
    (Bv (Cs (Cz Bb (EU.eb Bq)))
   (Bv (Cs (EF.eu (Dx (EF.eb (Fm 1 (Dg (Cz Bb (EU.eb Bq)) Bp))) Bb)))
   (Cs (Xy Bb Bb)))))
   (Gq (Dx (EF.eb (Fm 1 (Dg De Bp))) Bb)))))) (fun ps P hp=>?_)
 clear h hu hu64 hr
 obtain ⟨U,M,J,s,rfl,en,q⟩:=hp
 simp only [Fc,List.zipWith_cons_cons,List.zipWith_nil_left,List.zipWith_nil_right,List.length_cons,List.length_nil,Nat.zero_add,Nat.reduceAdd,Nat.reduceSub,List.replicate_succ,List.replicate_zero,Bool.false_eq_true,if_false,if_true,List.cons_append,List.nil_append,Gs]
 walk_at "pr"
 refine ⟨fun m ρ=>∃ (n:Int) (ms:List Int),ρ = [.bo (.bk U M J),.sh (.int s),.sh (.int n),.sh (.lst (ms.map .int)),.sh (Xx J n)]/\opn J m n ++ ms = opn J 7 s/\EndN J m n,⟨7,s,[],rfl,by simp,en s⟩,?_⟩
 rintro m ρ ⟨n,ms,rfl,ho,he⟩
 have ml:ms.length <= 8:=by
  have:=congrArg List.length ho
  have h2:=Lo J 7 s
  rw [List.length_append] at this
  omega
 walk_at "pr"
 unfold Xx
 cases e:Ct J n with
 | none =>
  refine Nd ?_
  walk_at "pr"
  rotate_left
  ·simp; omega
  rw [Oo e] at ho
  rw [<- ho,List.map_append] at q
  exact q
 | some b =>
  refine Jr ?_
  cases m with
  | zero=>rw [he.zero] at e; cases e
  | succ m =>
   walk_at "pr"
   rotate_left
   ·simp; omega
   refine ⟨m,Nat.lt_succ_self _,b.1,b.2 :: ms,rfl,?_,he.step e⟩
   rw [<- ho,Rq e]
   simp
local macro_rules | `(tactic| walk_at "u")=>`(tactic| with_reducible refine u_sp_rank (by assumption) ?_)
local macro_rules | `(tactic| walk_at "u")=>`(tactic| with_reducible refine Vc (by assumption) Uh ?_)
theorem Aja (T:Txt K mg t):Binds K t.d_qy ["self","sign"] []:=T.F_qy.binds (ps:=["self","sign"]) fun _ _ _ _ _ _ us hl=>match us,hl with | [_,_],_=>rfl
theorem AgG (T:Txt K mg t):FnOk P w K mg base CX0 1 t.f_qy t.d_qy ["self","sign"] (Vv t.C_Book):=by
 refine T.F_qy.ok Akk (fun vs H Q E h=>?_) (fun cdv A outer s H vs Q E hr h=>?_)
 ·obtain ⟨b,n,k,r,m,p,w,rfl,⟨dx,dk,dr,dm,dp,dw,h1,h2,h3,h4,h5,h6⟩,q⟩:=h
  rfl
 ·obtain ⟨b,n,k,r,m,p,w,rfl,⟨dx,dk,dr,dm,dp,dw,h1,h2,h3,h4,h5,h6⟩,q⟩:=h
  have hu:=Co hr
  have hu64:=hr.units
  refine ⟨_,(Bi (Cc (Js hu (Sw (pv 0) rfl) (pv 1) Bf ⟨rfl,rfl,rfl,rfl⟩))),?_⟩
  try dsimp only [Ce,By]
  walk_at "rd"
  refine ⟨b,_,_,_,_,rfl,h1,T.cl_Book,T.n_Book_ranks,Ab2,?_⟩
  walk_at "rd"
  exact q
def Ai5:PSp:=fun ps P=>∃ U M J n r,ps = [.bk U M J,.lst (List.map .int (n :: r))]/\Fq U M J/\(∀ m ∈ r,Bw U M m = true)/\(opT J (n :: r)).length < 64/\P (.lst (List.map .int (Fy U J (n :: r))))
theorem AlQ (T:Txt K mg t):Binds K t.d_qs ["book","whole"] []:=T.F_qs.binds (ps:=["book","whole"]) fun _ _ _ _ _ _ us hl=>match us,hl with | [_,_],_=>rfl
theorem Aly (T:Txt K mg t):FnOk P w K mg base CX0 4 t.f_qs t.d_qs ["book","whole"] (spOf K t.C_Book [false,false] .fr Ai5):=by
 refine T.F_qs.ok Ak9 (fun vs H Q E h=>h.len) (fun cdv A outer s H vs Q E hr h=>?_)
 have hu:=Co hr
 have hu64:=hr.units
 refine ⟨_,(Bi (Cc (Afl (AgG T) (hr.mono (by decide)) (Aja T) no0 rfl T.z_sorted (Ba (Bo Db (Bn (Af9 T) (hr.mono (by decide)) rfl T.m_ql T.F_ql.kp (AiS T) .nil Bt (Ba (pv 0) (Ba (Ca (Do K) (pv 1) Bf (fun _ _=>rfl)) Bc))) (Di (Dq K) (pv 1) (Da Bf) Dy)) Bc) (Ag0 (Aep (pv 0) T.cl_Book T.B_qy) AiG)))),?_⟩
 try dsimp only [Ce,By]
 refine Dr h (by decide) (Gq (Aei (Bx (EF.eb (Dx (EF.eb (Dz (Bx Bb (Dg (Fs Bb (EU.eb Bq)) Bp)))) (EF.eb (Gm Bb (Dv (EU.eb Bq)) Gb)))) Bp) Bb)) (fun ps P hp=>?_)
 clear h hu hu64 hr
 obtain ⟨U,M,J,n,r,rfl,bk,hr,hl,q⟩:=hp
 simp only [Fc,List.zipWith_cons_cons,List.zipWith_nil_left,List.zipWith_nil_right,List.length_cons,List.length_nil,Nat.zero_add,Nat.reduceAdd,Nat.reduceSub,List.replicate_succ,List.replicate_zero,Bool.false_eq_true,if_false,if_true,List.cons_append,List.nil_append,Gs]
 obtain ⟨_,_,_,eo,_,_⟩:=opW bk (n:=n) hr
 walk_at "pr"
 refine Gw (l:=n :: r) (j:=0) (a:=n) rfl rfl ?_
 walk_at "pr"
 refine ⟨U,M,J,n,rfl,fun s=>Aet bk.jo s,?_⟩
 walk_at "pr"
 rotate_left
 ·have:=Lo J 7 n
  have h2:=congrArg List.length eo
  rw [List.length_append] at h2
  rw [Fh,Ys,List.length_map,List.length_map]
  omega
 rw [Fh,Ys,<- List.map_append,<- eo]
 walk_at "pr"
 rotate_left
 ·exact hl
 rename_i ns' hs
 rw [Ajw hs]
 exact q
theorem AfQ (T:Txt K mg t):Binds K t.d_qbk ["book","text"] []:=T.F_qbk.binds (ps:=["book","text"]) fun _ _ _ _ _ _ us hl=>match us,hl with | [_,_],_=>rfl
theorem AcJ (T:Txt K mg t):FnOk P w K mg base CX0 5 t.f_qbk t.d_qbk ["book","text"] (spOf K t.C_Book [false,false] .fr AeZ):=by
 refine T.F_qbk.ok sc_qbk (fun vs H Q E h=>h.len) (fun cdv A outer s H vs Q E hr h=>?_)
 have hu:=Co hr
 have hu64:=hr.units
 refine ⟨_,(Be (Bs (i:=2) sc_qbk.nd rfl (Or.inl rfl) (Cw Bc))
   (Be (Df PassesOwn.never rfl (Cq (Bn (Yk T) (hr.mono (by decide)) rfl T.m_qbm T.F_qbm.kp (Ab0 T) .nil Bt (Ba (pv 0) (Ba (pv 1) Bc)))) (Br (i:=3) sc_qbk.nd rfl (Or.inl rfl))
    (Bi (Cg (Gk PySem.F.plainAttrs_list PySem.F.slot_list_extend PySem.F.type_list_extend Rs (pv 2) (Ba (Bn (Aly T) (hr.mono (by decide)) rfl T.m_qs T.F_qs.kp (AlQ T) .nil Bt (Ba (pv 0) (Ba (pv 3) Bc))) Bc)))))
   (Bi (Cc (pv 2))))),?_⟩
 try dsimp only [Ce,By]
 refine Dr h (by decide) (Bv (Jd (Fm 0 Bp))
   (Bv (Qg (Zw (Bx Bb (Bx Bb Bp))) (Ch (top:=4))
    (Zv (Bx (EF.eb (Dz (Bx Bb (Bx Bb Bp)))) Bp)))
   Oh)) (fun ps P hp=>?_)
 clear h hu hu64 hr
 obtain ⟨U,M,J,ts,rfl,bk,hl,ft,q⟩:=hp
 simp only [Fc,List.zipWith_cons_cons,List.zipWith_nil_left,List.zipWith_nil_right,List.length_cons,List.length_nil,Nat.zero_add,Nat.reduceAdd,Nat.reduceSub,List.replicate_succ,List.replicate_zero,Bool.false_eq_true,if_false,if_true,List.cons_append,List.nil_append,Gs]
 walk_at "pr"
 refine ⟨U,M,J,ts,rfl,hl,?_⟩
 have gl:=(Fw (Bw U M) ts).ln
 walk_at "pr"
 refine ⟨fun k ρ=>∃ v3,ρ = [.bo (.bk U M J),.bo (.lst (ts.map .int)),.ow (.lst ((((grp (Bw U M) ts).take k).flatMap (Fy U J)).map .int)),v3],⟨_,rfl⟩,?_,?_⟩
 ·rintro k p ρ hp ⟨v3,rfl⟩
  rw [List.getElem?_map] at hp
  obtain ⟨g,hg,rfl⟩:=Option.map_eq_some_iff.mp hp
  have hgm:=List.mem_of_getElem? hg
  obtain ⟨n,r,rfl,hr⟩:=(Fw (Bw U M) ts).ne g hgm
  have fl:=Yl (f:=Fy U J) (n:=63) (gs:=(grp (Bw U M) ts).take k) (fun x hx=>by
   have:=ft x (List.mem_of_mem_take hx)
   unfold Fy; rw [Go]; omega)
  rw [List.length_take] at fl
  have f1:=ft _ hgm
  walk_at "pr"
  refine ⟨U,M,J,n,r,rfl,bk,hr,f1,?_⟩
  walk_at "pr"
  rotate_left
  ·rw [List.length_map,List.length_map]
   unfold Fy at fl ⊢
   rw [Go]; omega
  exact ⟨_,by rw [Adk hg,List.map_append]⟩
 ·rintro ρ ⟨v3,rfl⟩
  rw [List.length_map,List.take_length]
  walk_at "pr"
  exact q
def Acq:PSp:=fun ps P=>∃ U m j,ps = [.tup [.lst (List.map sgP U),m,j]]/\(U.map (·.1)).Nodup/\U.length <= 1000/\P (.dk (rkD U))
theorem Ale (T:Txt K mg t):Binds K t.d_qbh ["_law_lists_here"] []:=T.F_qbh.binds (ps:=["_law_lists_here"]) fun _ _ _ _ _ _ us hl=>match us,hl with | [_],_=>rfl
theorem Ah1 (T:Txt K mg t):FnOk P w K mg base CX0 1 t.f_qbh t.d_qbh ["_law_lists_here"] (spOf K t.C_Book [false] .fr Acq):=by
 refine T.F_qbh.ok sc_qbh (fun vs H Q E h=>h.len) (fun cdv A outer s H vs Q E hr h=>?_)
 have hu:=Co hr
 have hu64:=hr.units
 refine ⟨_,(Be (Bs (i:=1) sc_qbh.nd rfl (Or.inl rfl) Ll)
   (Be (Df PassesOwn.never rfl (Cq (Ca (Cp K) (pv 0) Bf (fun _ _=>rfl))) (Qh (K':=K) (n:=3) rfl rfl (Cm (Br (i:=2) sc_qbh.nd rfl (Or.inl rfl)) (Cm (Br (i:=3) sc_qbh.nd rfl (Or.inl rfl)) (Cm (Br (i:=4) sc_qbh.nd rfl (Or.inl rfl)) Gi))))
    (Bi (Jw hu (pv 1) (pv 2) (pv 4) rfl)))
   (Bi (Cc (pv 1))))),?_⟩
 try dsimp only [Ce,By]
 refine Dr h (by decide) (Bv (Jd Aay)
   (Bv (Qg (Cz Bb (EU.eb Bq)) (Sq (Fp (Ch (top:=5)) (Fp (Ch (top:=5)) (Fp (Ch (top:=5)) Qq))))
    (AaW Bb De))
   Oh)) (fun ps P hp=>?_)
 clear h hu hu64 hr
 obtain ⟨U,m,j,rfl,nd,hl,q⟩:=hp
 simp only [Fc,List.zipWith_cons_cons,List.zipWith_nil_left,List.zipWith_nil_right,List.length_cons,List.length_nil,Nat.zero_add,Nat.reduceAdd,Nat.reduceSub,List.replicate_succ,List.replicate_zero,Bool.false_eq_true,if_false,if_true,List.cons_append,List.nil_append,Gs]
 walk_at "pr"
 refine ⟨fun k ρ=>∃ v2 v3 v4,ρ = [.bo (.tup [.lst (U.map sgP),m,j]),.ow (.dk (rkD (U.take k))),v2,v3,v4],⟨_,_,_,rfl⟩,?_,?_⟩
 ·rintro k p ρ hp ⟨v2,v3,v4,rfl⟩
  rw [List.getElem?_map] at hp
  obtain ⟨s,hs,rfl⟩:=Option.map_eq_some_iff.mp hp
  walk_at "pr"
  rotate_left
  ·unfold rkD; rw [List.length_map,List.length_take]; omega
  rw [AgI nd hs]
  exact ⟨_,_,_,rfl⟩
 ·rintro ρ ⟨v2,v3,v4,rfl⟩
  rw [List.length_map,List.take_length]
  walk_at "pr"
  exact q
def Ac0:PSp:=fun ps P=>∃ a m J,ps = [.tup [a,m,.lst (List.map jnP J)]]/\(J.map (·.1)).Nodup/\J.length <= 1000/\P (.dk (ptD J))
theorem Akj (T:Txt K mg t):Binds K t.d_qbg ["_law_lists_here"] []:=T.F_qbg.binds (ps:=["_law_lists_here"]) fun _ _ _ _ _ _ us hl=>match us,hl with | [_],_=>rfl
theorem Ai2 (T:Txt K mg t):FnOk P w K mg base CX0 1 t.f_qbg t.d_qbg ["_law_lists_here"] (spOf K t.C_Book [false] .fr Ac0):=by
 refine T.F_qbg.ok sc_qbg (fun vs H Q E h=>h.len) (fun cdv A outer s H vs Q E hr h=>?_)
 have hu:=Co hr
 have hu64:=hr.units
 refine ⟨_,(Be (Bs (i:=1) sc_qbg.nd rfl (Or.inl rfl) Ll)
   (Be (Df PassesOwn.never rfl (Cq (Ca (Cp K) (pv 0) Bf (fun _ _=>rfl))) (Qh (K':=K) (n:=3) rfl rfl (Cm (Br (i:=2) sc_qbg.nd rfl (Or.inl rfl)) (Cm (Br (i:=3) sc_qbg.nd rfl (Or.inl rfl)) (Cm (Br (i:=4) sc_qbg.nd rfl (Or.inl rfl)) Gi))))
    (Bi (Jw hu (pv 1) (pv 2) (Dw (Ba (pv 3) (Ba (pv 4) Bc))) rfl)))
   (Bi (Cc (pv 1))))),?_⟩
 try dsimp only [Ce,By]
 refine Dr h (by decide) (Bv (Jd Aay)
   (Bv (Qg (Cz Bb (EU.eb Bq)) (Sq (Fp (Ch (top:=5)) (Fp (Ch (top:=5)) (Fp (Ch (top:=5)) Qq))))
    (AaW Bb (Qi 2 (Dg De (Dg De Bp)))))
   Oh)) (fun ps P hp=>?_)
 clear h hu hu64 hr
 obtain ⟨a,m,J,rfl,nd,hl,q⟩:=hp
 simp only [Fc,List.zipWith_cons_cons,List.zipWith_nil_left,List.zipWith_nil_right,List.length_cons,List.length_nil,Nat.zero_add,Nat.reduceAdd,Nat.reduceSub,List.replicate_succ,List.replicate_zero,Bool.false_eq_true,if_false,if_true,List.cons_append,List.nil_append,Gs]
 walk_at "pr"
 refine ⟨fun k ρ=>∃ v2 v3 v4,ρ = [.bo (.tup [a,m,.lst (J.map jnP)]),.ow (.dk (ptD (J.take k))),v2,v3,v4],⟨_,_,_,rfl⟩,?_,?_⟩
 ·rintro k p ρ hp ⟨v2,v3,v4,rfl⟩
  rw [List.getElem?_map] at hp
  obtain ⟨s,hs,rfl⟩:=Option.map_eq_some_iff.mp hp
  walk_at "pr"
  rotate_left
  ·unfold ptD; rw [List.length_map,List.length_take]; omega
  rw [AhI nd hs]
  exact ⟨_,_,_,rfl⟩
 ·rintro ρ ⟨v2,v3,v4,rfl⟩
  rw [List.length_map,List.take_length]
  walk_at "pr"
  exact q
def AbT:PSp:=fun ps P=>∃ J ts,ps = [.lst (List.map .int ts),.dk (ptD J)]/\(∀ s,EndN J 7 s)/\ts.length <= 1000/\P (.lst (List.map .int (opT J ts)))
theorem AhO (T:Txt K mg t):Binds K t.d_qr ["_law_text_here","_law_parts_here"] []:=T.F_qr.binds (ps:=["_law_text_here","_law_parts_here"]) fun _ _ _ _ _ _ us hl=>match us,hl with | [_,_],_=>rfl
theorem Agj (T:Txt K mg t):FnOk P w K mg base CX0 1 t.f_qr t.d_qr ["_law_text_here","_law_parts_here"] (spOf K t.C_Book [false,false] .fr AbT):=by
 refine T.F_qr.ok sc_qr (fun vs H Q E h=>h.len) (fun cdv A outer s H vs Q E hr h=>?_)
 have hu:=Co hr
 have hu64:=hr.units
 refine ⟨_,(Be (Bs (i:=2) sc_qr.nd rfl (Or.inl rfl) (Cw Bc))
   (Be (Df PassesOwn.never rfl (Cq (pv 0)) (Br (i:=3) sc_qr.nd rfl (Or.inl rfl))
    (Be (Bs (i:=4) sc_qr.nd rfl (Or.inl rfl) (Cw Bc))
   (Be (Zs PassesOwn.never (Vm (AcZ hu (pv 3) (pv 1)))
    (Be (AhK (AaU hu (pv 1) (pv 3) (fun _ _=>rfl)) (Qh (K':=K) (n:=2) rfl rfl (Cm (Br (i:=3) sc_qr.nd rfl (Or.inl rfl)) (Cm (Br (i:=5) sc_qr.nd rfl (Or.inl rfl)) Gi))))
   (Bi (Cg (Gk PySem.F.plainAttrs_list PySem.F.slot_list_insert PySem.F.type_list_insert AbJ (pv 4) (Ba Bf (Ba (pv 5) Bc)))))))
   (Bi (Bs (i:=2) sc_qr.nd rfl (Or.inl rfl) (Bo Db (Bo Db (pv 2) (Cw (Ba (pv 3) Bc))) (pv 4)))))))
   (Bi (Cc (pv 2))))),?_⟩
 try dsimp only [Ce,By]
 refine Dr h (by decide) (Bv (Jd (Fm 0 Bp))
   (Bv (AaT (Ch (top:=6))
    (Bv (Jd (Fm 0 Bp))
   (Bv (Xw (Fl (EU.eb (AhY Bb Bb)))
    (Bv (Aka (Ahk Bb Bb) (Sq (Fp (Ch (top:=6)) (Fp (Ch (top:=6)) Qq))))
   (AjH (Dg Bq (Dg De Bp)))))
   (Jd (Dx (EF.eb (Dx Bb (EF.eb (Fm 1 (Dg De Bp))))) Bb)))))
   Oh)) (fun ps P hp=>?_)
 clear h hu hu64 hr
 obtain ⟨J,ts,rfl,en,hl,q⟩:=hp
 simp only [Fc,List.zipWith_cons_cons,List.zipWith_nil_left,List.zipWith_nil_right,List.length_cons,List.length_nil,Nat.zero_add,Nat.reduceAdd,Nat.reduceSub,List.replicate_succ,List.replicate_zero,Bool.false_eq_true,if_false,if_true,List.cons_append,List.nil_append,Gs]
 walk_at "pr"
 refine ⟨fun k ρ=>∃ v3 v4 v5,ρ = [.bo (.lst (ts.map .int)),.bo (.dk (ptD J)),.ow (.lst ((opT J (ts.take k)).map .int)),v3,v4,v5],⟨_,_,_,rfl⟩,?_,?_⟩
 ·rintro k p ρ hp ⟨v3,v4,v5,rfl⟩
  rw [List.getElem?_map] at hp
  obtain ⟨s,hs,rfl⟩:=Option.map_eq_some_iff.mp hp
  have ol:=Ju J (ts.take k)
  rw [List.length_take] at ol
  walk_at "pr"
  refine ⟨fun m ρ=>∃ (n:Int) (ms:List Int) (v5:Sl),ρ = [.bo (.lst (ts.map .int)),.bo (.dk (ptD J)),.ow (.lst ((opT J (ts.take k)).map .int)),.sh (.int n),.ow (.lst (ms.map .int)),v5]/\opn J m n ++ ms = opn J 7 s/\EndN J m n,⟨7,s,[],v5,rfl,by simp,en s⟩,?_⟩
  rintro m ρ ⟨n,ms,v5,rfl,ho,he⟩
  have ml:ms.length <= 8:=by
   have:=congrArg List.length ho
   have h2:=Lo J 7 s
   rw [List.length_append] at this
   omega
  walk_at "pr"
  rw [Aa4]
  cases e:Ct J n with
  | none =>
   refine Nd ?_
   walk_at "pr"
   rotate_left
   ·simp only [List.length_append,List.length_map,List.length_cons,List.length_nil]; omega
   ·simp only [List.length_append,List.length_map,List.length_cons,List.length_nil]; omega
   rw [Oo e] at ho
   exact ⟨.sh (.int n),.ow (.lst (ms.map .int)),v5,by rw [Cn hs,Afg,<- ho]; simp⟩
  | some b =>
   refine Jr ?_
   cases m with
   | zero=>rw [he.zero] at e; cases e
   | succ m =>
    walk_at "pr"
    refine AjC (by rw [Aa4,e]; rfl) ?_
    walk_at "pr"
    rotate_left
    ·rw [List.length_map]; omega
    refine ⟨m,Nat.lt_succ_self _,b.1,b.2 :: ms,_,rfl,?_,he.step e⟩
    rw [<- ho,Rq e]
    simp
 ·rintro ρ ⟨v3,v4,v5,rfl⟩
  rw [List.length_map,List.take_length]
  walk_at "pr"
  exact q
def Yd (K:PySem.W.Frag):Sp:=fun vs H Q _=>∃ l d U ts,vs = [.ref l,.ref d]/\H d = some (.dK (kR U))/\SqL K H l (List.map V.int ts)/\ts.length <= 300 /\
 ∀ (wl:Addr) (xs:List V) (H':Hp),H wl = none->Same H H'->(∀ x ∈ xs,∃ p,x = V.ref p/\H p = none)->LLat H' wl xs (grp (rkm U) ts)->Q (.ref wl) H'
def Acr:PSp:=fun ps P=>∃ U ts,ps = [.lst (List.map .int ts),.dk (rkD U)]/\ts.length <= 300/\P (.lst (List.map (fun g=>PV.lst (List.map .int g)) (grp (rkm U) ts)))
theorem Xr {C:Addr} {ω:Om} {E:XK} {m n:Bool} {t:TA} {u:UA} (ha:AU K C ω [m,n] t u):EU K C ω (Oz (Yd K) [] E t) (Qz Acr u) :=
 fun B G0 H0 own G σ H ρ P Q S hu k=>ha B G0 H0 own G σ H ρ _ _ S hu fun vs ps G1 H1 w1 ok ⟨U,ts,e,hl,h⟩=>by
  obtain ⟨v,w,p,q,rfl,e2,r1,r2⟩:=Ub ok
  rw [e] at e2; cases e2
  obtain ⟨a,xs,rfl,ea,l⟩:=r1.lst w1.i
  rw [Tc l] at ea
  obtain ⟨d,kvs,rfl,ed,ld⟩:=r2.dk w1.i
  have ek:kvs = kR U:=by
   refine Na (by rw [ld.1]; unfold rkD kR; rw [List.length_map,List.length_map]) fun i x y hx hy=>?_
   unfold kR at hy
   rw [List.getElem?_map] at hy
   obtain ⟨g,hg,rfl⟩:=Option.map_eq_some_iff.mp hy
   obtain ⟨z1,z2⟩:=ld.2 i x (Sum.inl g.1,.int g.2.2) hx (by unfold rkD; rw [List.getElem?_map,hg]; rfl)
   obtain ⟨x1,x2⟩:=x
   have z2':Rep K C G1 x2 (.int g.2.2):=z2
   cases z2'
   have z1':x1 = Sum.inl g.1:=z1
   rw [z1']
  rw [ek] at ed
  refine ⟨a,d,U,ts,rfl,ed,SqL.of ea,hl,fun wl xs H2 hwl s2 fx ll=>?_⟩
  refine k _ _ _ H2 (w1.trans (Np w1.i s2)) (Rep.ofL (Dt hwl ll.li) ⟨by rw [ll.at'.1,List.length_map],fun i x y hx hy=>?_⟩) h
  rw [List.getElem?_map] at hy
  obtain ⟨g,hg,rfl⟩:=Option.map_eq_some_iff.mp hy
  obtain ⟨p,e1,hp⟩:=ll.at'.2 i x g hx hg
  obtain ⟨p',e2,hn⟩:=fx x (List.mem_of_getElem? hx)
  subst e1
  cases e2
  exact Rep.ofL (Dt hn hp) (Ff g)
theorem AfO (T:Txt K mg t):Binds K t.d_qbj ["_law_text_here","_law_ranks_here"] []:=T.F_qbj.binds (ps:=["_law_text_here","_law_ranks_here"]) fun _ _ _ _ _ _ us hl=>match us,hl with | [_,_],_=>rfl
theorem AdQ (T:Txt K mg t):FnOk P w K mg base CX0 1 t.f_qbj t.d_qbj ["_law_text_here","_law_ranks_here"] (Yd K):=by
 refine T.F_qbj.ok sc_qbj (fun vs H Q E h=>?_) (fun cdv A outer s H vs Q E hr h=>?_)
 ·obtain ⟨l,d,U,ts,rfl,hD,hT,hl,q⟩:=h
  rfl
 ·obtain ⟨l,d,U,ts,rfl,hD,hT,hl,q⟩:=h
  have hu:=Co hr
  have hu64:=hr.units
  refine ⟨_,(Be (Bs (i:=2) sc_qbj.nd rfl (Or.inl rfl) (Cw Bc))
   (Be (Df PassesOwn.never rfl (Cq (pv 0)) (Br (i:=3) sc_qbj.nd rfl (Or.inl rfl))
    (Be (Fj (PW.pt (Xo (Cl Fo (Cj (Fn) rfl T.z_len PySem.boot_len (Ba (pv 2) Bc)) Bf (Ck _)) (Vp (Cl Fo (Js hu (pv 1) (pv 3) Bf ⟨rfl,rfl,rfl,rfl⟩) Bf (Ck _)))))
    (Bi (Cg (Gk PySem.F.plainAttrs_list PySem.F.slot_list_append PySem.F.type_list_append Fd (pv 2) (Ba (Cw Bc) Bc))))
    Dm)
   (Bi (Cg (Gk PySem.F.plainAttrs_list PySem.F.slot_list_append PySem.F.type_list_append Fd (Ca (Du) (pv 2) (AfY Ac9 Bf) (fun _ _=>rfl)) (Ba (pv 3) Bc))))))
   (Bi (Cc (pv 2))))),?_⟩
  try dsimp only [Ce,By]
  walk_at "rd"
  refine ⟨by decide,fun wl H0 hwl s0 e0=>?_⟩
  walk_at "rd"
  refine Lz (i:=0) rfl (s0.seq hT) (fun i σ H'=>∃ v3 xs,σ = [some (.ref l),some (.ref d),some (.ref wl),v3]/\Same H H'/\(∀ x ∈ xs,∃ p,x = V.ref p/\H p = none)/\LLat H' wl xs (grp (rkm U) (ts.take i))) ⟨none,[],rfl,s0,(fun x h=>by cases h),⟨e0,LAt.nil,List.nodup_nil,by simp⟩⟩ (fun i σ H' _ ⟨_,_,_,s,_⟩=>s.seq hT) ?_ ?_
  ·rintro i x σ H' hi ⟨v3,xs,rfl,s,fx,ll⟩
   obtain ⟨n,en,rfl⟩:=Zf hi
   have hlt:=(List.getElem?_eq_some_iff.mp en).1
   have eg:grp (rkm U) (ts.take (i + 1)) = Nf (rkm U) (grp (rkm U) (ts.take i)) n:=by rw [Cn en,Aae]
   have hli:=ll.li
   have hxl:xs.length <= 300:=by
    have:=(Fw (rkm U) (ts.take i)).ln
    rw [<- ll.at'.1,List.length_take] at this
    omega
   have hD':H' d = some (.dK (kR U)):=s _ _ hD
   walk_at "rd"
   refine Fi (fun h=>?_) (fun h=>?_)
   ·have hz:grp (rkm U) (ts.take i) = []\/rkm U n = false:=.inl (List.eq_nil_of_length_eq_zero (by
     have h':((xs.length:Nat):Int) = 0:=of_decide_eq_true h
     rw [<- ll.at'.1]; omega))
    refine Jr ?_
    walk_at "rd"
    refine ⟨by decide,fun p H2 hp s2 e2=>?_⟩
    walk_at "rd"
    walk_at "rd"
    refine Ds (s2 _ _ hli) (Dn (by omega)) fun H3 c3 e3=>?_
    have npw:p ≠ wl:=(Bm hli hp).symm
    have e2':=c3 _ _ e2 npw
    walk_at "rd"
    refine Fk (SqL.of e3) ?_ (Lj _ _)
    walk_at "rd"
    walk_at "rd"
    refine Ds e2' (by decide) fun H4 c4 e4=>?_
    walk_at "rd"
    refine ⟨_,_,rfl,((s.trans s2).chg c3 hwl).chg c4 (s.free hp),fun x hx=>?_,by rw [eg,Ln (by assumption)]; exact ll.push hp s2 c3 e3 c4 e4⟩
    rcases List.mem_append.mp hx with w | w
    ·exact fx x w
    ·exact ⟨p,List.mem_singleton.mp w,s.free hp⟩
   ·have h':¬ ((xs.length:Nat):Int) = 0:=fun z=>h (decide_eq_true z)
    walk_at "rd"
    rw [Af4]
    walk_at "rd"
    refine Fi (fun h2=>?_) (fun h2=>?_)
    ·have hz:grp (rkm U) (ts.take i) = []\/rkm U n = false:=.inr (by
      unfold rkm
      rw [h2]; rfl)
     walk_at "rd"
     refine ⟨by decide,fun p H2 hp s2 e2=>?_⟩
     walk_at "rd"
     walk_at "rd"
     refine Ds (s2 _ _ hli) (Dn (by omega)) fun H3 c3 e3=>?_
     have npw:p ≠ wl:=(Bm hli hp).symm
     have e2':=c3 _ _ e2 npw
     walk_at "rd"
     refine Fk (SqL.of e3) ?_ (Lj _ _)
     walk_at "rd"
     walk_at "rd"
     refine Ds e2' (by decide) fun H4 c4 e4=>?_
     walk_at "rd"
     refine ⟨_,_,rfl,((s.trans s2).chg c3 hwl).chg c4 (s.free hp),fun x hx=>?_,by rw [eg,Ln (by assumption)]; exact ll.push hp s2 c3 e3 c4 e4⟩
     rcases List.mem_append.mp hx with w | w
     ·exact fx x w
     ·exact ⟨p,List.mem_singleton.mp w,s.free hp⟩
    ·have hm:rkm U n = true:=by
      unfold rkm
      simpa using h2
     obtain ⟨xs',p,gs',g,rfl,eg',hp⟩:=ll.last (fun z=>h' (by rw [ll.at'.1,z]; rfl))
     rw [eg'] at ll eg
     have hgl:g.length <= 300:=by
      have z:=(Fw (rkm U) (ts.take i)).fl
      rw [eg'] at z
      have:=congrArg List.length z
      simp at this
      omega
     walk_at "rd"
     refine Fk (SqL.of hli) ?_ (Lj _ _)
     walk_at "rd"
     walk_at "rd"
     refine Ds hp (Dn (by rw [List.length_map]; omega)) fun H4 c4 e4=>?_
     walk_at "rd"
     have fp:H p = none:=by
      obtain ⟨p',e,z⟩:=fx _ (List.mem_append_right _ List.mem_cons_self)
      cases e; exact z
     exact ⟨_,_,rfl,s.chg c4 fp,fx,by rw [eg,Rb hm]; exact ll.add c4 e4⟩
  ·rintro σ H' ⟨v3,xs,rfl,s,fx,ll⟩
   rw [List.length_map,List.take_length] at ll
   walk_at "rd"
   exact q wl xs H' hwl s fx ll
abbrev swP (s:Str × Int):PV:=.tup [.str s.1,.int s.2]
inductive Stw (U:List Sg) (J:List Jn):List Int->Str × Int->List Int->Prop where
 | op {a b:List Int} {s x y:Int} (h:Ct J s = some (x,y)):Stw U J (a ++ s :: b) ("open",(a.length:Int)) (a ++ x :: y :: b)
 | jn {a b:List Int} {s x y:Int} (h:Ct J s = some (x,y)):Stw U J (a ++ x :: y :: b) ("join",(a.length:Int)) (a ++ s :: b)
 | tu {a b:List Int} {x y:Int} (hx:Bz U x > 0) (hy:Bz U y > 0) (ne:Bz U x ≠ Bz U y):Stw U J (a ++ x :: y :: b) ("turn",(a.length:Int)) (a ++ y :: x :: b)
def Way (U:List Sg) (J:List Jn):List Int->List (Str × Int)->List Int->Prop
 | ts,[],us=>ts = us
 | ts,s :: ss,us=>∃ m,Stw U J ts s m/\Way U J m ss us
section
variable {U:List Sg} {M:List (Int × Int)} {J:List Jn}
theorem Way.app:∀ {ss ss':List (Str × Int)} {ts ms us:List Int},Way U J ts ss ms->Way U J ms ss' us->Way U J ts (ss ++ ss') us
 | [],_,_,_,_,h,h'=>by cases h; exact h'
 | s :: ss,_,_,_,_,⟨m,h1,h2⟩,h'=>⟨m,h1,Way.app h2 h'⟩
def bkS (s:Str × Int):Str × Int:=if s.1 = "open" then ("join",s.2) else s
theorem Stw.bk {ts us:List Int} {s:Str × Int} (h:Stw U J ts s us) (hw:s.1 = "open"\/s.1 = "turn"):Stw U J us (bkS s) ts:=by
 cases h with
 | op h=>unfold bkS; rw [if_pos rfl]; exact .jn h
 | jn h =>
  rcases hw with e | e
  ·exact absurd (show ("join" : Str) = "open" from e) (by decide +kernel)
  ·exact absurd (show ("join" : Str) = "turn" from e) (by decide +kernel)
 | tu h1 h2 h3=>unfold bkS; rw [if_neg (show ¬ ("turn" : Str) = "open" by decide +kernel)]; exact .tu h2 h1 (Ne.symm h3)
def OT (ss:List (Str × Int)):Prop:=∀ s ∈ ss,s.1 = "open"\/s.1 = "turn"
theorem OT.app {a b:List (Str × Int)} (h:OT a) (h':OT b):OT (a ++ b):=fun s hs=>(List.mem_append.mp hs).elim (h s) (h' s)
theorem Way.rev:∀ {ss:List (Str × Int)} {ts us:List Int},Way U J ts ss us->OT ss->Way U J us (ss.reverse.map bkS) ts
 | [],_,_,h,_=>by cases h; rfl
 | s :: ss,_,_,⟨m,h1,h2⟩,hw=>by
  rw [List.reverse_cons,List.map_append]
  exact Way.app (Way.rev h2 fun x hx=>hw x (List.mem_cons_of_mem _ hx)) ⟨_,h1.bk (hw s List.mem_cons_self),rfl⟩
theorem Yo {a:List Int}:∀ (m:Nat) (s:Int) (b:List Int),Way U J (a ++ s :: b) (List.replicate ((opn J m s).length - 1) ("open",(a.length:Int))) (a ++ opn J m s ++ b)
 | 0,s,b=>by simp [opn,Way]
 | m + 1,s,b=>by
  cases e:Ct J s with
  | none=>rw [Oo e]; simp [Way]
  | some p =>
   have h0:=Abb J m p.1
   rw [Rq e,List.length_append,List.length_singleton,Nat.add_sub_cancel,show (opn J m p.1).length = ((opn J m p.1).length - 1) + 1 by omega,List.replicate_succ]
   refine ⟨a ++ p.1 :: p.2 :: b,.op e,?_⟩
   have:=Yo (a:=a) m p.1 (p.2 :: b)
   simpa using this
theorem Aap {x:Int} (hx:Bz U x > 0) {a:List Int}:∀ (n:Nat) (Q b:List Int),Q.length = n->(∀ y ∈ Q,Bz U y > Bz U x)->Way U J (a ++ Q ++ x :: b) ((List.range n).map fun (g:Nat)=>((("turn" : Str),(a.length:Int) + n - 1 - g):Str × Int)) (a ++ x :: Q ++ b)
 | 0,Q,b,hQ,_=>by rw [List.eq_nil_of_length_eq_zero hQ]; simp [Way]
 | n + 1,Q,b,hQ,hr=>by
  rcases List.eq_nil_or_concat Q with e | ⟨Q',y,e⟩
  ·rw [e] at hQ; cases hQ
  ·rw [List.concat_eq_append] at e
   subst e
   have lQ:Q'.length = n:=by simpa using hQ
   have hy:=hr y (by simp)
   rw [List.range_succ_eq_map,List.map_cons,List.map_map]
   refine ⟨(a ++ Q') ++ x :: y :: b,?_,?_⟩
   ·have st:=Stw.tu (U:=U) (J:=J) (a:=a ++ Q') (b:=b) (x:=y) (y:=x) (by omega) hx (by omega)
    have e1:(((a ++ Q').length:Nat):Int) = (a.length:Int) + ((n + 1:Nat):Int) - 1 - ((0:Nat):Int):=by rw [List.length_append,lQ]; omega
    rw [e1] at st
    have e2:(a ++ Q') ++ y :: x :: b = a ++ (Q' ++ [y]) ++ x :: b:=by simp
    rw [e2] at st
    exact st
   ·have:=Aap hx (a:=a) n Q' (y :: b) lQ fun z hz=>hr z (by simp [hz])
    have e3:((fun (g:Nat)=>((("turn" : Str),(a.length:Int) + ((n + 1:Nat):Int) - 1 - (g:Int)):Str × Int)) ∘ Nat.succ) = fun (g:Nat)=>((("turn" : Str),(a.length:Int) + n - 1 - g):Str × Int):=by
     funext g
     show ((("turn" : Str),(a.length:Int) + ((n + 1:Nat):Int) - 1 - ((g + 1:Nat):Int)):Str × Int) = _
     congr 1
     omega
    rw [e3]
    simpa using this
theorem Vo {rk:Int->Int} {x:Int}:∀ {S:List Int},S.Pairwise (fun a b=>rk a <= rk b)->S = S.filter (fun y=>decide (rk y <= rk x)) ++ S.filter (fun y=>decide (rk y > rk x))/\Ng rk x S = S.filter (fun y=>decide (rk y <= rk x)) ++ x :: S.filter (fun y=>decide (rk y > rk x))
 | [],_=>⟨rfl,rfl⟩
 | y :: S,h=>by
  obtain ⟨h1,h2⟩:=List.pairwise_cons.mp h
  obtain ⟨i1,i2⟩:=Vo (x:=x) h2
  by_cases z:rk x < rk y
  ·have e0:(y :: S).filter (fun y=>decide (rk y <= rk x)) = []:=List.filter_eq_nil_iff.mpr fun w hw=>by
    have:rk y <= rk w:=by
     rcases List.mem_cons.mp hw with e | e
     ·rw [e]; exact Int.le_refl _
     ·exact h1 w e
    simp; omega
   have e1:(y :: S).filter (fun y=>decide (rk y > rk x)) = y :: S:=List.filter_eq_self.mpr fun w hw=>by
    have:rk y <= rk w:=by
     rcases List.mem_cons.mp hw with e | e
     ·rw [e]; exact Int.le_refl _
     ·exact h1 w e
    simp; omega
   rw [e0,e1]
   refine ⟨rfl,?_⟩
   unfold Ng
   rw [if_pos z]; rfl
  ·rw [List.filter_cons,if_pos (by simp; omega),List.filter_cons,if_neg (by simp; omega)]
   refine ⟨by rw [List.cons_append,<- i1],?_⟩
   unfold Ng
   rw [if_neg z,i2]; rfl
theorem Acw {rk:Int->Int} (ms:List Int) (x:Int):∃ P Q,srt rk ms = P ++ Q/\srt rk (ms ++ [x]) = P ++ x :: Q/\(∀ y ∈ Q,rk y > rk x)/\Q.length = (ms.filter fun y=>decide (rk y > rk x)).length:=by
 obtain ⟨h1,h2⟩:=Vo (x:=x) (Gd rk ms).pw
 refine ⟨_,_,h1,by rw [Yq]; exact h2,fun y hy=>by simpa using (List.mem_filter.mp hy).2,?_⟩
 exact ((Gd rk ms).perm.filter _).length_eq
theorem Afb {a b ms:List Int} {x:Int} {r:List Int} (hx:(ms.filter fun y=>decide (Bz U y > Bz U x)) ≠ []->Bz U x > 0) :
  Way U J (a ++ srt (Bz U) ms ++ x :: r ++ b) ((List.range (ms.filter fun y=>decide (Bz U y > Bz U x)).length).map fun (g:Nat)=>((("turn" : Str),(a.length:Int) + ms.length - 1 - g):Str × Int)) (a ++ srt (Bz U) (ms ++ [x]) ++ r ++ b):=by
 obtain ⟨P,Q,e1,e2,hQ,lQ⟩:=Acw (rk:=Bz U) ms x
 rw [<- lQ,e1,e2]
 by_cases z:Q = []
 ·subst z
  have:a ++ (P ++ []) ++ x :: r ++ b = a ++ P ++ [x] ++ r ++ b:=by simp
  simp [Way]
 ·have hx':=hx (fun e=>z (List.eq_nil_of_length_eq_zero (by rw [lQ,e]; rfl)))
  have:=Aap (J:=J) hx' (a:=a ++ P) Q.length Q (r ++ b) rfl hQ
  have lm:P.length + Q.length = ms.length:=by
   have:=congrArg List.length e1
   rw [Go,List.length_append] at this
   omega
  have e3:((((a ++ P).length:Nat):Int) + Q.length - 1) = (a.length:Int) + ms.length - 1:=by rw [List.length_append]; omega
  rw [e3] at this
  simpa using this
end
theorem AeK {n:Nat} {f:Nat->Option PV} {P:PV->Prop} {ug:PV->Bh->(Bh->Prop)->Prop} {ta:UT} {ue:UE} {ρ':Bh} (hn:n < 100000) (q:P (.lst ((List.range n).filterMap f))) (h:∀ k,k < n->∀ Z:Option PV->Prop,Z (f k)->ug (.int (k:Int)) ρ' fun ρ2=>ta ρ2 fun b=>if b = true then ue ρ2 fun q=>Z (some q) else Z none):Zt ug ta ue ρ' P [.int (n:Int)]:=by
 refine ⟨_,rfl,by omega,by omega,fun k rs=>rs = (List.range k).filterMap f,rfl,fun k rs hk hr=>?_,fun rs hr=>?_⟩
 ·subst hr
  rw [Int.toNat_natCast] at hk
  rw [Int.zero_add]
  refine h k hk (fun o=>(match o with | some q=>(List.range k).filterMap f ++ [q] | none=>(List.range k).filterMap f) = (List.range (k + 1)).filterMap f) ?_
  rw [List.range_succ,List.filterMap_append]
  cases e:f k with
  | none=>simp [List.filterMap_cons,e]
  | some x=>simp [List.filterMap_cons,e]
 ·rw [Int.toNat_natCast] at hr
  rw [hr]; exact q
def AhC:PSp:=fun ps P=>∃ U M J ms a0,ps = [.bk U M J,.lst (List.map .int ms),.int a0]/\ms.length < 64/\(∀ k x,0 < k->ms[k]? = some x->Bz U x > 0)/\∀ ss:List (Str × Int),OT ss->ss.length <= 64 * ms.length->(∀ a b:List Int,(a.length:Int) = a0->Way U J (a ++ ms ++ b) ss (a ++ srt (Bz U) ms ++ b))->P (.lst (ss.map swP))
theorem Al2 (T:Txt K mg t):Binds K t.d_qb ["book","signs","at"] []:=T.F_qb.binds (ps:=["book","signs","at"]) fun _ _ _ _ _ _ us hl=>match us,hl with | [_,_,_],_=>rfl
theorem Akz (T:Txt K mg t):FnOk P w K mg base CX0 2 t.f_qb t.d_qb ["book","signs","at"] (spOf K t.C_Book [false,false,true] .fr AhC):=by
 refine T.F_qb.ok sc_qb (fun vs H Q E h=>h.len) (fun cdv A outer s H vs Q E hr h=>?_)
 have hu:=Co hr
 have hu64:=hr.units
 refine ⟨_,(Be (Rp 1 [0] ["sign","book"] ["book"] rfl (Cq (pv 1)) rfl (fun j y e1 i e2=>match j,e1,e2 with | 0,e1,e2=>by cases e1; cases e2; exact ⟨rfl,rfl,rfl,by decide +kernel⟩ | _ + 1,_,e2=>by simp at e2) (List.forall_mem_cons.mpr ⟨rfl,fun _ h=>nomatch h⟩) (by decide +kernel) (fun _ _ _ _=>(Br (i:=0) (show List.Nodup (["sign","book"]:List Str) by decide +kernel) rfl (Or.inl rfl))) (fun _ _ _ _=>Gp) (fun _ _ _ _=>(To (pv 1) T.cl_Book T.M_qy (AgG T) (hr.mono (by decide)) (Aja T) .nil Bt (Ba (pv 0) Bc))) rfl (by decide +kernel) rfl (by decide +kernel) (fun _=>rfl) (i:=3) sc_qb.nd rfl (Or.inl rfl) rfl)
   (Be (Bs (i:=4) sc_qb.nd rfl (Or.inl rfl) (Cw Bc))
   (Be (Df PassesOwn.never rfl (Ag4 (pv 3) rfl T.z_enumerate) (Qh (K':=K) (n:=2) rfl rfl (Cm (Br (i:=5) sc_qb.nd rfl (by first | exact Or.inl rfl | exact Or.inr rfl)) (Cm (Br (i:=6) sc_qb.nd rfl (by first | exact Or.inl rfl | exact Or.inr rfl)) Gi)))
    (Be (Bs (i:=7) sc_qb.nd rfl (Or.inl rfl) (Cj (Cu K) rfl T.z_len PySem.boot_len (Ba (Lu 1 [6] ["other","rank"] ["rank"] rfl (Cq (Di (Dq K) (pv 3) Dy (Da (pv 5)))) rfl (fun j y e1 i e2=>match j,e1,e2 with | 0,e1,e2=>by cases e1; cases e2; exact ⟨rfl,rfl,rfl,by decide +kernel⟩ | _ + 1,_,e2=>by simp at e2) (List.forall_mem_cons.mpr ⟨rfl,fun _ h=>nomatch h⟩) (by decide +kernel) (fun _ _ _ _=>(Br (i:=0) (show List.Nodup (["other","rank"]:List Str) by decide +kernel) rfl (Or.inl rfl))) (fun _ _ _ _=>(Jv (Cl Xi (pv 0) (pv 1) (Ck _)))) (fun _ _ _ _=>(pv 0)) rfl (by decide +kernel) rfl (by decide +kernel)) Bc)))
   (Bi (Cg (Gk PySem.F.plainAttrs_list PySem.F.slot_list_extend PySem.F.type_list_extend Rs (pv 4) (Ba (Lu 1 [2,5] ["going","at","k"] ["k","at"] rfl (Gz rfl T.z_range (Ba (pv 7) Bc)) rfl (fun j y e1 i e2=>match j,e1,e2 with | 0,e1,e2=>by cases e1; cases e2; exact ⟨rfl,rfl,rfl,by decide +kernel⟩ | 1,e1,e2=>by cases e1; cases e2; exact ⟨rfl,rfl,rfl,by decide +kernel⟩ | _ + 2,_,e2=>by simp at e2) (List.forall_mem_cons.mpr ⟨rfl,List.forall_mem_cons.mpr ⟨rfl,fun _ h=>nomatch h⟩⟩) (by decide +kernel) (fun _ _ _ _=>(Br (i:=0) (show List.Nodup (["going","at","k"]:List Str) by decide +kernel) rfl (Or.inl rfl))) (fun _ _ _ _=>Gp) (fun _ _ _ _=>(Dw (Ba Cr (Ba (Bo Sv (Bo Sv (Bo Ga (pv 1) (pv 2)) Bf) (pv 0)) Bc)))) rfl (by decide +kernel) rfl (by decide +kernel)) Bc))))))
   (Bi (Cc (pv 4)))))),?_⟩
 try dsimp only [Ce,By]
 refine Dr h (by decide) (Bv (Cs (EF.eu (Gc Bb (Ch (top:=1)) Jf (Ahg Bb Bb))))
   (Bv (Jd (Fm 0 Bp))
   (Bv (Ahj De (Sq (Fp (Ch (top:=8)) (Fp (Ch (top:=8)) Qq)))
    (Bv (Cs (Fz (Bx (EF.eb (Gc (EF.eb (Gm Bb Gb (Dv Bb))) (Ch (top:=1)) (Fl (EU.eb (Gv (fun _ _ _=>.bl _) Bb Bb))) De)) Bp)))
   (Zv (Bx (EF.eb (Ae7 (Bx Bb Bp) (Ch (top:=1)) Jf (Qi 2 (Dg Qn (Dg (Gv (fun _ _ _=>.int _) (EU.eb (Gv (fun _ _ _=>.int _) (EU.eb (Gv (fun _ _ _=>.int _) Bb Bb)) (EU.eb Bq))) Bb) Bp))))) Bp))))
   Oh))) (fun ps P hp=>?_)
 clear h hu hu64 hr
 obtain ⟨U,M,J,ms,a0,rfl,hl,hm,q⟩:=hp
 simp only [Fc,List.zipWith_cons_cons,List.zipWith_nil_left,List.zipWith_nil_right,List.length_cons,List.length_nil,Nat.zero_add,Nat.reduceAdd,Nat.reduceSub,List.replicate_succ,List.replicate_zero,Bool.false_eq_true,if_false,if_true,List.cons_append,List.nil_append,Gs]
 walk_at "pr"
 refine ⟨by rw [List.length_map]; omega,?_⟩
 refine Fu (f:=fun d=>some (.int (Bz U d))) ?_ (fun d hd Z hZ=>?_)
 rotate_left
 ·walk_at "cp"
  walk_at "pr"
  exact hZ
 rw [Lv]
 walk_at "pr"
 refine ⟨fun k ρ=>∃ (ss:List (Str × Int)) (v5 v6 v7:Sl),ρ = [.bo (.bk U M J),.bo (.lst (ms.map .int)),.sh (.int a0),.sh (.lst ((ms.map (Bz U)).map .int)),.ow (.lst (ss.map swP)),v5,v6,v7]/\OT ss/\ss.length <= 64 * k/\∀ a b:List Int,(a.length:Int) = a0->Way U J (a ++ ms ++ b) ss (a ++ srt (Bz U) (ms.take k) ++ ms.drop k ++ b),⟨[],_,_,_,rfl,(fun s h=>by cases h),Nat.zero_le _,fun a b _=>by simp [Way,srt]⟩,?_,?_⟩
 ·rintro k p ρ hp ⟨ss,v5,v6,v7,rfl,ot,ln,hw⟩
  rw [Aba,List.getElem?_map,List.getElem?_map] at hp
  cases hx:ms[k]? with
  | none=>rw [hx] at hp; cases hp
  | some x =>
   rw [hx] at hp
   cases hp
   have hk:k < ms.length:=(List.getElem?_eq_some_iff.mp hx).1
   walk_at "pr"
   rw [Fh,Vs,<- List.map_take]
   refine ⟨by simp only [List.length_map,List.length_take]; omega,?_⟩
   refine Fu (f:=fun d=>if decide (d > Bz U x) = true then some (.int d) else none) ?_ (fun d hd Z hZ=>?_)
   rotate_left
   ·walk_at "cp"
    walk_at "pr"
    refine Fi (fun h=>?_) (fun h=>?_)
    ·rw [if_pos h] at hZ
     walk_at "pr"
     exact hZ
    ·rw [if_neg h] at hZ
     exact hZ
   rw [Fv]
   walk_at "pr"
   have lf:(List.filter (fun d=>decide (d > Bz U x)) ((ms.take k).map (Bz U))).length = ((ms.take k).filter fun y=>decide (Bz U y > Bz U x)).length:=by
    rw [List.filter_map,List.length_map]; rfl
   have lf2:=List.length_filter_le (fun y=>decide (Bz U y > Bz U x)) (ms.take k)
   rw [List.length_take] at lf2
   rw [List.length_map,lf]
   refine AeK (f:=fun g=>some (swP ("turn",a0 + (k:Int) - 1 - (g:Int)))) (by omega) ?_ (fun g hg Z hZ=>?_)
   rotate_left
   ·walk_at "cp"
    walk_at "pr"
    exact hZ
   rw [show (fun (g:Nat)=>some (swP ("turn",a0 + (k:Int) - 1 - (g:Int)))) = fun g=>some ((swP ∘ fun (g:Nat)=>((("turn" : Str),a0 + (k:Int) - 1 - (g:Int)):Str × Int)) g) from rfl,List.filterMap_eq_map',<- List.map_map]
   walk_at "pr"
   rotate_left
   ·simp only [List.length_map,List.length_range]; omega
   refine ⟨ss ++ (List.range ((ms.take k).filter fun y=>decide (Bz U y > Bz U x)).length).map fun (g:Nat)=>((("turn" : Str),a0 + (k:Int) - 1 - (g:Int)):Str × Int),_,_,_,by rw [List.map_append],ot.app fun s hs=>?_,?_,fun a b ha=>(hw a b ha).app ?_⟩
   ·obtain ⟨g,_,rfl⟩:=List.mem_map.mp hs
    exact .inr rfl
   ·rw [List.length_append,List.length_map,List.length_range]; omega
   ·have w:=Afb (U:=U) (J:=J) (a:=a) (b:=b) (ms:=ms.take k) (x:=x) (r:=ms.drop (k + 1)) (fun hn=>by
     rcases Nat.eq_zero_or_pos k with z | z
     ·subst z; exact absurd rfl hn
     ·exact hm k x z hx)
    rw [show (ms.take k).length = k by rw [List.length_take]; omega,ha,<- Cn hx] at w
    have ed:x :: ms.drop (k + 1) = ms.drop k:=by
     rw [List.getElem?_eq_getElem hk] at hx
     rw [List.drop_eq_getElem_cons hk,Option.some.inj hx]
    rw [ed] at w
    exact w
 rintro ρ ⟨ss,v5,v6,v7,rfl,ot,ln,hw⟩
 rw [Aa7,List.length_map,List.length_map] at ln hw
 walk_at "pr"
 exact q ss ot ln fun a b ha=>by
  have:=hw a b ha
  rw [List.take_length,List.drop_length,List.append_nil] at this
  exact this
def AgU:PSp:=fun ps P=>∃ U M J n r a0,ps = [.bk U M J,.lst (List.map .int (n :: r)),.int a0]/\Fq U M J/\(∀ m ∈ r,Bw U M m = true)/\(opT J (n :: r)).length < 64/\∀ ss:List (Str × Int),OT ss->ss.length <= 70 * (opT J (n :: r)).length->(∀ a b:List Int,(a.length:Int) = a0->Way U J (a ++ (n :: r) ++ b) ss (a ++ Fy U J (n :: r) ++ b))->P (.lst (ss.map swP))
theorem AjX (T:Txt K mg t):Binds K t.d_qe ["book","whole","at"] []:=T.F_qe.binds (ps:=["book","whole","at"]) fun _ _ _ _ _ _ us hl=>match us,hl with | [_,_,_],_=>rfl
theorem Afs (T:Txt K mg t):FnOk P w K mg base CX0 3 t.f_qe t.d_qe ["book","whole","at"] (spOf K t.C_Book [false,false,true] .fr AgU):=by
 refine T.F_qe.ok sc_qe (fun vs H Q E h=>h.len) (fun cdv A outer s H vs Q E hr h=>?_)
 have hu:=Co hr
 have hu64:=hr.units
 refine ⟨_,(Be (Bs (i:=3) sc_qe.nd rfl (Or.inl rfl) (Bn (Af9 T) (hr.mono (by decide)) rfl T.m_ql T.F_ql.kp (AiS T) .nil Bt (Ba (pv 0) (Ba (Ca (Do K) (pv 1) Bf (fun _ _=>rfl)) Bc))))
   (Be (Rp 1 [2] ["mark","at"] ["at"] rfl (Cq (Di (Dq K) (pv 3) (Da Bf) Dy)) rfl (fun j y e1 i e2=>match j,e1,e2 with | 0,e1,e2=>by cases e1; cases e2; exact ⟨rfl,rfl,rfl,by decide +kernel⟩ | _ + 1,_,e2=>by simp at e2) (List.forall_mem_cons.mpr ⟨rfl,fun _ h=>nomatch h⟩) (by decide +kernel) (fun _ _ _ _=>(Br (i:=0) (show List.Nodup (["mark","at"]:List Str) by decide +kernel) rfl (Or.inl rfl))) (fun _ _ _ _=>Gp) (fun _ _ _ _=>(Dw (Ba Cr (Ba (pv 1) Bc)))) rfl (by decide +kernel) rfl (by decide +kernel) (fun _=>rfl) (i:=4) sc_qe.nd rfl (Or.inl rfl) rfl)
   (Bi (Cc (Bo Db (pv 4) (Bn (Akz T) (hr.mono (by decide)) rfl T.m_qb T.F_qb.kp (Al2 T) .nil Bt (Ba (pv 0) (Ba (Bo Db (pv 3) (Di (Dq K) (pv 1) (Da Bf) Dy)) (Ba (pv 2) Bc))))))))),?_⟩
 try dsimp only [Ce,By]
 refine Dr h (by decide) (Bv (Cs (EF.eu (Dz (Bx Bb (Dg (Fs Bb (EU.eb Bq)) Bp)))))
   (Bv (Cs (EF.eu (Gc (EF.eb (Gm Bb (Dv (EU.eb Bq)) Gb)) (Ch (top:=1)) Jf (Qi 2 (Dg Qn (Dg De Bp))))))
   (Gq (Dx Bb (EF.eb (Dz (Bx Bb (Bx (EF.eb (Dx Bb (EF.eb (Gm Bb (Dv (EU.eb Bq)) Gb)))) (Dg De Bp))))))))) (fun ps P hp=>?_)
 clear h hu hu64 hr
 obtain ⟨U,M,J,n,r,a0,rfl,bk,hr,hl,q⟩:=hp
 simp only [Fc,List.zipWith_cons_cons,List.zipWith_nil_left,List.zipWith_nil_right,List.length_cons,List.length_nil,Nat.zero_add,Nat.reduceAdd,Nat.reduceSub,List.replicate_succ,List.replicate_zero,Bool.false_eq_true,if_false,if_true,List.cons_append,List.nil_append,Gs]
 obtain ⟨c,cm,ec,eo,hcm,_⟩:=opW bk (n:=n) hr
 have on:=Lo J 7 n
 have op:=Abb J 7 n
 walk_at "pr"
 refine Gw (l:=n :: r) (j:=0) (a:=n) rfl rfl ?_
 walk_at "pr"
 refine ⟨U,M,J,n,rfl,fun s=>Aet bk.jo s,?_⟩
 walk_at "pr"
 have e1:Ft ((opn J 7 n).map PV.int) (some 1) none = ((opn J 7 n).drop 1).map .int:=by
  rw [Fh]
  exact congrArg _ (Vl (opn J 7 n) 1)
 rw [e1]
 refine ⟨by rw [List.length_map,List.length_drop]; omega,?_⟩
 refine Fu (f:=fun _=>some (swP ("open",a0))) ?_ (fun d hd Z hZ=>?_)
 rotate_left
 ·walk_at "cp"
  walk_at "pr"
  exact hZ
 rw [show ((opn J 7 n).drop 1).filterMap (fun _=>some (swP ("open",a0))) = (List.replicate ((opn J 7 n).length - 1) ((("open" : Str),a0):Str × Int)).map swP by
  rw [show (fun (_:Int)=>some (swP ("open",a0))) = fun x=>some ((fun _=>swP ("open",a0)) x) from rfl,List.filterMap_eq_map',List.map_replicate]
  rw [List.map_const',List.length_drop]]
 walk_at "pr"
 rw [Fh,Ys,<- List.map_append,<- eo]
 rotate_left
 ·have:=congrArg List.length eo
  rw [List.length_append] at this
  have h1:=Xs ((n :: r).map PV.int) (some 1) none
  rw [List.length_map,List.length_cons] at h1
  simp only [List.length_map]; omega
 refine ⟨U,M,J,opT J (n :: r),a0,rfl,hl,fun k x hk hx=>?_,fun ss ot ls hw=>?_⟩
 ·rw [ec] at hx
  obtain ⟨j,rfl⟩:∃ j,k = j + 1:=⟨k - 1,by omega⟩
  rw [List.getElem?_cons_succ] at hx
  have:=Vz bk (hcm x (List.mem_of_getElem? hx))
  omega
 walk_at "pr"
 rotate_left
 ·simp only [List.length_map,List.length_replicate]; omega
 rw [<- List.map_append]
 refine q _ (OT.app (fun s hs=>.inl (by rw [(List.mem_replicate.mp hs).2])) ot) ?_ fun a b ha=>?_
 ·have:=congrArg List.length eo
  rw [List.length_append] at this
  rw [List.length_append,List.length_replicate]; omega
 ·have w1:=Yo (U:=U) (J:=J) (a:=a) 7 n (r ++ b)
  rw [ha] at w1
  refine Way.app (ms:=a ++ opT J (n :: r) ++ b) ?_ (hw a b ha)
  rw [eo]
  simpa using w1
def Ajv:PSp:=fun ps P=>∃ s:Str × Int,ps = [swP s]/\P (swP (bkS s))
theorem Alc (T:Txt K mg t):Binds K t.d_qbl ["step"] []:=T.F_qbl.binds (ps:=["step"]) fun _ _ _ _ _ _ us hl=>match us,hl with | [_],_=>rfl
theorem Aj5 (T:Txt K mg t):FnOk P w K mg base CX0 1 t.f_qbl t.d_qbl ["step"] (spOf K t.C_Book [true] .sh Ajv):=by
 refine T.F_qbl.ok Akg (fun vs H Q E h=>h.len) (fun cdv A outer s H vs Q E hr h=>?_)
 have hu:=Co hr
 have hu64:=hr.units
 refine ⟨_,(Be (Fj (Cl Fo (Ca (Cp K) (pv 0) Bf (fun _ _=>rfl)) Cr (Ck _))
    (Bi (Cc (Dw (Ba Cr (Ba (Ca (Cp K) (pv 0) Bf (fun _ _=>rfl)) Bc)))))
    Dm)
   (Bi (Cc (pv 0)))),?_⟩
 try dsimp only [Ce,By]
 refine Dr h (by decide) (Bv (Je (Fl (EU.eb (Jp (EU.eb (Cz Bb (EU.eb Bq))) (EU.eb Qn))))
    (Jj (Qi 2 (Dg Qn (Dg (Cz Bb (EU.eb Bq)) Bp))))
    Gf)
   (Jj De)) (fun ps P hp=>?_)
 clear h hu hu64 hr
 obtain ⟨s,rfl,q⟩:=hp
 simp only [Fc,List.zipWith_cons_cons,List.zipWith_nil_left,List.zipWith_nil_right,List.length_cons,List.length_nil,Nat.zero_add,Nat.reduceAdd,Nat.reduceSub,List.replicate_succ,List.replicate_zero,Bool.false_eq_true,if_false,if_true,List.cons_append,List.nil_append,Gs]
 unfold bkS at q
 walk_at "pr"
 by_cases h:s.1 = "open"
 ·rw [if_pos h] at q
  rw [decide_eq_true h]
  walk_at "pr"
  exact q
 ·rw [if_neg h] at q
  rw [decide_eq_false h]
  walk_at "pr"
  exact q
def Aio:PSp:=fun ps P=>∃ ss:List (Str × Int),ps = [.lst (List.map swP ss)]/\ss.length <= 10000/\P (.lst ((ss.reverse.map bkS).map swP))
theorem Ak8 (T:Txt K mg t):Binds K t.d_qbp ["way"] []:=T.F_qbp.binds (ps:=["way"]) fun _ _ _ _ _ _ us hl=>match us,hl with | [_],_=>rfl
theorem Ajc (T:Txt K mg t):FnOk P w K mg base CX0 2 t.f_qbp t.d_qbp ["way"] (spOf K t.C_Book [false] .fr Aio):=by
 refine T.F_qbp.ok Ah4 (fun vs H Q E h=>h.len) (fun cdv A outer s H vs Q E hr h=>?_)
 have hu:=Co hr
 have hu64:=hr.units
 refine ⟨_,(Bi (Cc (Lg 1 ["step"] rfl rfl (Aiu (pv 0) rfl T.z_reversed) (fun _ _ _ _=>(Br (i:=0) (show List.Nodup (["step"]:List Str) by decide +kernel) rfl (Or.inl rfl))) (fun _ _ _ _=>Gp) (fun _ _ _ _=>(Bn (Aj5 T) (hr.mono (by decide)) rfl T.m_qbl T.F_qbl.kp (Alc T) .nil Bt (Ba (pv 0) Bc))) (by decide +kernel) (by decide +kernel) rfl (by decide +kernel)))),?_⟩
 try dsimp only [Ce,By]
 refine Dr h (by decide) (Gq (Afj Bb (Ch (top:=1)) Jf (Tw (Dg De Bp)))) (fun ps P hp=>?_)
 clear h hu hu64 hr
 obtain ⟨ss,rfl,hl,q⟩:=hp
 simp only [Fc,List.zipWith_cons_cons,List.zipWith_nil_left,List.zipWith_nil_right,List.length_cons,List.length_nil,Nat.zero_add,Nat.reduceAdd,Nat.reduceSub,List.replicate_succ,List.replicate_zero,Bool.false_eq_true,if_false,if_true,List.cons_append,List.nil_append,Gs]
 walk_at "pr"
 refine ⟨_,rfl,by rw [List.length_map]; omega,?_⟩
 rw [<- List.map_reverse]
 refine Fu (S:=ss.reverse) (enc:=swP) (f:=fun s=>some (swP (bkS s))) ?_ (fun d hd Z hZ=>?_)
 rotate_left
 ·walk_at "cp"
  walk_at "pr"
  refine ⟨d,rfl,?_⟩
  exact hZ
 rw [show (fun s=>some (swP (bkS s))) = fun s=>some ((swP ∘ bkS) s) from rfl,List.filterMap_eq_map',<- List.map_map]
 exact q
section
variable {U:List Sg} {M:List (Int × Int)} {J:List Jn} {f:List Int->List Int}
theorem LongW.len {w v:List Int} (h:Fy U J v = Fy U J w):(opT J v).length = (opT J w).length:=by
 have:=congrArg List.length h
 unfold Fy at this
 rwa [Go,Go] at this
end
def Aha:PSp:=fun ps P=>∃ U M J n r n' r' a0,ps = [.bk U M J,.lst (List.map .int (n :: r)),.lst (List.map .int (n' :: r')),.int a0]/\Fq U M J/\(∀ m ∈ r,Bw U M m = true)/\(∀ m ∈ r',Bw U M m = true)/\(opT J (n :: r)).length < 64/\Fy U J (n :: r) = Fy U J (n' :: r') /\
 ∀ ss:List (Str × Int),ss.length <= 140 * (opT J (n :: r)).length->(∀ a b:List Int,(a.length:Int) = a0->Way U J (a ++ (n :: r) ++ b) ss (a ++ (n' :: r') ++ b))->P (.lst (ss.map swP))
theorem AlR (T:Txt K mg t):Binds K t.d_qc ["book","one","other","at"] []:=T.F_qc.binds (ps:=["book","one","other","at"]) fun _ _ _ _ _ _ us hl=>match us,hl with | [_,_,_,_],_=>rfl
theorem AkY (T:Txt K mg t):FnOk P w K mg base CX0 4 t.f_qc t.d_qc ["book","one","other","at"] (spOf K t.C_Book [false,false,false,true] .fr Aha):=by
 refine T.F_qc.ok Aks (fun vs H Q E h=>h.len) (fun cdv A outer s H vs Q E hr h=>?_)
 have hu:=Co hr
 have hu64:=hr.units
 refine ⟨_,(Be (Fj (Cl (Ahp K hu64) (pv 1) (pv 2) (Ck _))
    (Bi (Cc (Cw Bc)))
    Dm)
   (Bi (Cc (Bo Db (Bn (Afs T) (hr.mono (by decide)) rfl T.m_qe T.F_qe.kp (AjX T) .nil Bt (Ba (pv 0) (Ba (pv 1) (Ba (pv 3) Bc)))) (Bn (Ajc T) (hr.mono (by decide)) rfl T.m_qbp T.F_qbp.kp (Ak8 T) .nil Bt (Ba (Bn (Afs T) (hr.mono (by decide)) rfl T.m_qe T.F_qe.kp (AjX T) .nil Bt (Ba (pv 0) (Ba (pv 2) (Ba (pv 3) Bc)))) Bc)))))),?_⟩
 try dsimp only [Ce,By]
 refine Dr h (by decide) (Bv (Je (Fl (EU.eb (Aaa Bb Bb)))
    (Gq (Fm 0 Bp))
    Gf)
   (Gq (Dx (EF.eb (Dz (Bx Bb (Bx Bb (Dg De Bp))))) (EF.eb (Dz (Bx (EF.eb (Dz (Bx Bb (Bx Bb (Dg De Bp))))) Bp)))))) (fun ps P hp=>?_)
 clear h hu hu64 hr
 obtain ⟨U,M,J,n,r,n',r',a0,rfl,bk,hr,hr',hl,he,q⟩:=hp
 simp only [Fc,List.zipWith_cons_cons,List.zipWith_nil_left,List.zipWith_nil_right,List.length_cons,List.length_nil,Nat.zero_add,Nat.reduceAdd,Nat.reduceSub,List.replicate_succ,List.replicate_zero,Bool.false_eq_true,if_false,if_true,List.cons_append,List.nil_append,Gs]
 have hl':(opT J (n' :: r')).length = (opT J (n :: r)).length:=LongW.len he.symm
 walk_at "pr"
 refine Ah7 ?_
 walk_at "pr"
 by_cases h:n :: r = n' :: r'
 ·rw [decide_eq_true h]
  walk_at "pr"
  refine q [] (Nat.zero_le _) fun a b _=>by rw [h]; rfl
 ·rw [decide_eq_false h]
  walk_at "pr"
  refine ⟨U,M,J,n,r,a0,rfl,bk,hr,hl,fun ss ot ls hw=>?_⟩
  walk_at "pr"
  refine ⟨U,M,J,n',r',a0,rfl,bk,hr',by omega,fun ss' ot' ls' hw'=>?_⟩
  walk_at "pr"
  refine ⟨ss',rfl,by omega,?_⟩
  walk_at "pr"
  rotate_left
  ·simp only [List.length_map,List.length_reverse]; omega
  rw [<- List.map_append]
  refine q _ (by simp only [List.length_append,List.length_map,List.length_reverse]; omega) fun a b ha=>?_
  have w2:=(hw' a b ha).rev ot'
  rw [<- he] at w2
  exact (hw a b ha).app w2
def Ag5:PSp:=fun ps P=>∃ U M J ts us,ps = [.bk U M J,.lst (List.map .int ts),.lst (List.map .int us)]/\Fq U M J/\ts.length <= 300/\us.length <= 300/\Fit U M J ts/\Fit U M J us/\(lng U M J ts).length <= 600/\(lng U M J ts = lng U M J us->∀ ss:List (Str × Int),Way U J ts ss us->P (.lst (ss.map swP)))/\(¬ lng U M J ts = lng U M J us->P .non)
theorem Agm (T:Txt K mg t):Binds K t.d_qbr ["book","one","other"] []:=T.F_qbr.binds (ps:=["book","one","other"]) fun _ _ _ _ _ _ us hl=>match us,hl with | [_,_,_],_=>rfl
theorem AcS (T:Txt K mg t):FnOk P w K mg base CX0 6 t.f_qbr t.d_qbr ["book","one","other"] (spOf K t.C_Book [false,false,false] .sh Ag5):=by
 refine T.F_qbr.ok sc_qbr (fun vs H Q E h=>h.len) (fun cdv A outer s H vs Q E hr h=>?_)
 have hu:=Co hr
 have hu64:=hr.units
 refine ⟨_,(Be (Fj (Cl (Aaz K hu64) (Bn (AcJ T) (hr.mono (by decide)) rfl T.m_qbk T.F_qbk.kp (AfQ T) .nil Bt (Ba (pv 0) (Ba (pv 1) Bc))) (Bn (AcJ T) (hr.mono (by decide)) rfl T.m_qbk T.F_qbk.kp (AfQ T) .nil Bt (Ba (pv 0) (Ba (pv 2) Bc))) (Ck _))
    (Bi (Cc Aik))
    Dm)
   (Be (Bs (i:=3) sc_qbr.nd rfl (Or.inl rfl) (Cw Bc))
   (Be (Bs (i:=4) sc_qbr.nd rfl (Or.inl rfl) Bf)
   (Be (Df PassesOwn.never rfl (Ahn K (Bn (Yk T) (hr.mono (by decide)) rfl T.m_qbm T.F_qbm.kp (Ab0 T) .nil Bt (Ba (pv 0) (Ba (pv 1) Bc))) (Bn (Yk T) (hr.mono (by decide)) rfl T.m_qbm T.F_qbm.kp (Ab0 T) .nil Bt (Ba (pv 0) (Ba (pv 2) Bc))) rfl T.z_zip) (Qh (K':=K) (n:=2) rfl rfl (Cm (Br (i:=5) sc_qbr.nd rfl (Or.inl rfl)) (Cm (Br (i:=6) sc_qbr.nd rfl (Or.inl rfl)) Gi)))
    (Be (Cg (Gk PySem.F.plainAttrs_list PySem.F.slot_list_extend PySem.F.type_list_extend Rs (pv 3) (Ba (Bn (AkY T) (hr.mono (by decide)) rfl T.m_qc T.F_qc.kp (AlR T) .nil Bt (Ba (pv 0) (Ba (pv 5) (Ba (pv 6) (Ba (pv 4) Bc))))) Bc)))
   (Bi (Ajz (i:=4) sc_qbr.nd rfl (Or.inl rfl) (Cj (Cu K) rfl T.z_len PySem.boot_len (Ba (pv 6) Bc)) Aj8))))
   (Bi (Cc (pv 3))))))),?_⟩
 try dsimp only [Ce,By]
 refine Dr h (by decide) (Bv (Je (Fl (EU.eb (Aaa (EF.eb (Dz (Bx Bb (Bx Bb Bp)))) (EF.eb (Dz (Bx Bb (Bx Bb Bp)))))))
    (Jj Ah9)
    Gf)
   (Bv (Jd (Fm 0 Bp))
   (Bv (Cs Bq)
   (Bv (AgS (Zw (Bx Bb (Bx Bb Bp))) (Zw (Bx Bb (Bx Bb Bp))) (Sq (Fp (Ch (top:=7)) (Fp (Ch (top:=7)) Qq)))
    (Bv (Zv (Bx (EF.eb (Dz (Bx Bb (Bx Bb (Bx Bb (Dg De Bp)))))) Bp))
   (Aj9 (EU.eb (Fz (Bx Bb Bp))))))
   (AeL 3 (Jj De)))))) (fun ps P hp=>?_)
 clear h hu hu64 hr
 obtain ⟨U,M,J,ts,us,rfl,bk,lt,lu,ft,fu,hN,q1,q2⟩:=hp
 simp only [Fc,List.zipWith_cons_cons,List.zipWith_nil_left,List.zipWith_nil_right,List.length_cons,List.length_nil,Nat.zero_add,Nat.reduceAdd,Nat.reduceSub,List.replicate_succ,List.replicate_zero,Bool.false_eq_true,if_false,if_true,List.cons_append,List.nil_append,Gs]
 have gt:=Fw (Bw U M) ts
 have gu:=Fw (Bw U M) us
 walk_at "pr"
 refine ⟨U,M,J,ts,rfl,bk,lt,ft,?_⟩
 walk_at "pr"
 refine ⟨U,M,J,us,rfl,bk,lu,fu,?_⟩
 walk_at "pr"
 refine AdU ?_
 walk_at "pr"
 by_cases h:lng U M J ts = lng U M J us
 rotate_left
 ·rw [decide_eq_false h]
  walk_at "pr"
  exact q2 h
 rw [decide_eq_true h]
 have ge:(grp (Bw U M) ts).map (Fy U J) = (grp (Bw U M) us).map (Fy U J):=by rw [<- Tx bk,<- Tx bk,h]
 have gl:(grp (Bw U M) ts).length = (grp (Bw U M) us).length:=by simpa using congrArg List.length ge
 walk_at "pr"
 refine ⟨U,M,J,ts,rfl,lt,?_⟩
 walk_at "pr"
 refine ⟨U,M,J,us,rfl,lu,?_⟩
 walk_at "pr"
 rw [Ahc]
 refine ⟨fun k ρ=>∃ (ss:List (Str × Int)) (v5 v6:Sl),ρ = [.bo (.bk U M J),.bo (.lst (ts.map .int)),.bo (.lst (us.map .int)),.ow (.lst (ss.map swP)),.sh (.int (((grp (Bw U M) us).take k).flatten.length:Int)),v5,v6]/\ss.length <= 140 * (opT J ((grp (Bw U M) ts).take k).flatten).length/\Way U J ts ss (((grp (Bw U M) us).take k).flatten ++ ((grp (Bw U M) ts).drop k).flatten),⟨[],_,_,rfl,Nat.zero_le _,by
  show ts = _
  rw [List.take_zero,List.drop_zero,gt.fl]; rfl⟩,?_,?_⟩
 ·rintro k p ρ hp ⟨ss,v5,v6,rfl,ln,hw⟩
  rw [List.getElem?_map] at hp
  obtain ⟨z,hz,rfl⟩:=Option.map_eq_some_iff.mp hp
  have hk:=(List.getElem?_eq_some_iff.mp hz).1
  rw [List.length_zip] at hk
  have h1:(grp (Bw U M) ts)[k]? = some z.1:=by
   rw [List.zip,List.getElem?_zipWith] at hz
   rw [List.getElem?_eq_getElem (by omega),List.getElem?_eq_getElem (by omega)] at hz
   rw [List.getElem?_eq_getElem (by omega),<- Option.some.inj hz]
  have h2:(grp (Bw U M) us)[k]? = some z.2:=by
   rw [List.zip,List.getElem?_zipWith] at hz
   rw [List.getElem?_eq_getElem (by omega),List.getElem?_eq_getElem (by omega)] at hz
   rw [List.getElem?_eq_getElem (show k < (grp (Bw U M) us).length by omega),<- Option.some.inj hz]
  have m1:=List.mem_of_getElem? h1
  have m2:=List.mem_of_getElem? h2
  have eL:Fy U J z.1 = Fy U J z.2:=by
   have:=congrArg (fun l=>l[k]?) ge
   simp only [List.getElem?_map,h1,h2,Option.map_some] at this
   exact Option.some.inj this
  have f1:=ft _ m1
  obtain ⟨z1,z2⟩:=z
  obtain ⟨n,r,e1,hr⟩:=gt.ne _ m1
  obtain ⟨n',r',e2,hr'⟩:=gu.ne _ m2
  simp only at e1 e2 h1 h2 eL f1
  subst e1 e2
  have ot1:(opT J ((grp (Bw U M) ts).take (k + 1)).flatten).length = (opT J ((grp (Bw U M) ts).take k).flatten).length + (opT J (n :: r)).length:=by
   rw [Cn h1,List.flatten_append,Ri,List.length_append]; simp
  have otn:(opT J ((grp (Bw U M) ts).take (k + 1)).flatten).length <= 600:=by
   refine Nat.le_trans ?_ hN
   rw [Wc]
   conv=>rhs; rw [<- gt.fl,<- List.take_append_drop (k + 1) (grp (Bw U M) ts),List.flatten_append,Ri,List.length_append]
   exact Nat.le_add_right _ _
  walk_at "pr"
  refine ⟨U,M,J,n,r,n',r',_,rfl,bk,hr,hr',f1,eL,fun ss' ls hw'=>?_⟩
  walk_at "pr"
  rotate_left
  ·simp only [List.length_map]; omega
  rw [show (((grp (Bw U M) us).take k).flatten.length:Int) + (((n' :: r').map PV.int).length:Int) = (((grp (Bw U M) us).take (k + 1)).flatten.length:Int) by
   rw [Cn h2,List.flatten_append,List.length_append,List.length_map]
   simp]
  refine ⟨ss ++ ss',_,_,by rw [List.map_append],by rw [List.length_append]; omega,hw.app ?_⟩
  have w:=hw' ((grp (Bw U M) us).take k).flatten ((grp (Bw U M) ts).drop (k + 1)).flatten rfl
  have ed:(grp (Bw U M) ts).drop k = (n :: r) :: (grp (Bw U M) ts).drop (k + 1):=by
   have hkl:=(List.getElem?_eq_some_iff.mp h1).1
   rw [List.getElem?_eq_getElem hkl] at h1
   rw [List.drop_eq_getElem_cons hkl,Option.some.inj h1]
  rw [ed,Cn h2,List.flatten_append,List.flatten_cons]
  simpa using w
 rintro ρ ⟨ss,v5,v6,rfl,ln,hw⟩
 rw [List.length_map,List.length_zip,gl,Nat.min_self,List.take_length,<- gl,List.drop_length,gu.fl] at hw
 walk_at "pr"
 exact q1 h ss (by simpa using hw)
abbrev lsI (t:List Int):PV:=.lst (t.map .int)
def Aee (U:List Sg) (g h:List Int):Prop:=g.length = h.length/\∀ s ∈ g,(g.filter fun d=>decide (Bz U d = Bz U s)) = h.filter fun d=>decide (Bz U d = Bz U s)
theorem alkW_iff {U:List Sg} {g h:List Int}:srt (Bz U) g = srt (Bz U) h ↔ Aee U g h:=by
 constructor
 ·intro e
  refine ⟨by rw [<- Go (Bz U) g,e,Go],fun s _=>?_⟩
  rw [<- (Gd (Bz U) g).fl,e,(Gd (Bz U) h).fl]
 ·rintro ⟨hl,hf⟩
  have pm:(h.filter fun y=>decide (∃ s ∈ g,Bz U s = Bz U y)).Perm g:=by
   rw [List.perm_iff_count]
   intro y
   by_cases z:∃ s ∈ g,Bz U s = Bz U y
   ·obtain ⟨s,hs,e⟩:=z
    have h1:=congrArg (List.count y) (hf s hs)
    rw [List.count_filter (by simpa using e.symm),List.count_filter (by simpa using e.symm)] at h1
    rw [List.count_filter (by simpa using ⟨s,hs,e⟩),h1]
   ·rw [List.count_eq_zero.mpr (fun w=>z (by simpa using (List.mem_filter.mp w).2)),List.count_eq_zero.mpr (fun w=>z ⟨y,w,rfl⟩)]
  refine Acm fun r=>?_
  by_cases z:∃ s ∈ g,Bz U s = r
  ·obtain ⟨s,hs,e⟩:=z
   have:=hf s hs
   rw [e] at this
   exact this
  ·have all:∀ y ∈ h,∃ s ∈ g,Bz U s = Bz U y:=by
    have el:(h.filter fun y=>decide (∃ s ∈ g,Bz U s = Bz U y)).length = h.length:=by rw [pm.length_eq,hl]
    intro y hy
    have:=List.length_filter_eq_length_iff.mp el y hy
    simpa using this
   rw [List.filter_eq_nil_iff.mpr (fun y hy w=>z ⟨y,hy,by simpa using w⟩),List.filter_eq_nil_iff.mpr (fun y hy w=>by
    obtain ⟨s,hs,e⟩:=all y hy
    exact z ⟨s,hs,by rw [e]; simpa using w⟩)]
theorem Acg {U:List Sg} {M:List (Int × Int)} {J:List Jn} (bk:Fq U M J) (xs ys:List Int):lng U M J xs = lng U M J ys ↔ ((grp (Bw U M) xs).map (opT J)).length = ((grp (Bw U M) ys).map (opT J)).length/\∀ (j:Nat) (g h:List Int),((grp (Bw U M) xs).map (opT J))[j]? = some g->((grp (Bw U M) ys).map (opT J))[j]? = some h->Aee U g h:=by
 have e1:lng U M J xs = lng U M J ys ↔ (grp (Bw U M) xs).map (Fy U J) = (grp (Bw U M) ys).map (Fy U J):=by
  constructor
  ·intro e; rw [<- Tx bk,<- Tx bk,e]
  ·intro e; unfold lng; rw [List.flatMap_def,List.flatMap_def,e]
 rw [e1,List.length_map,List.length_map]
 constructor
 ·intro e
  refine ⟨by simpa using congrArg List.length e,fun j g h h1 h2=>?_⟩
  rw [List.getElem?_map] at h1 h2
  obtain ⟨w,hw,rfl⟩:=Option.map_eq_some_iff.mp h1
  obtain ⟨v,hv,rfl⟩:=Option.map_eq_some_iff.mp h2
  have:=congrArg (fun l=>l[j]?) e
  simp only [List.getElem?_map,hw,hv,Option.map_some] at this
  exact alkW_iff.mp (Option.some.inj this)
 ·rintro ⟨el,h⟩
  refine List.ext_getElem? fun j=>?_
  rw [List.getElem?_map,List.getElem?_map]
  by_cases z:j < (grp (Bw U M) xs).length
  ·rw [List.getElem?_eq_getElem z,List.getElem?_eq_getElem (show j < (grp (Bw U M) ys).length by omega)]
   simp only [Option.map_some]
   congr 1
   refine alkW_iff.mpr (h j _ _ ?_ ?_)
   ·rw [List.getElem?_map,List.getElem?_eq_getElem z]; rfl
   ·rw [List.getElem?_map,List.getElem?_eq_getElem (show j < (grp (Bw U M) ys).length by omega)]; rfl
  ·rw [List.getElem?_eq_none (by omega),List.getElem?_eq_none (by omega)]
def Ab3:PSp:=fun ps P=>∃ U M J xs ys,ps = [.lst (List.map .int xs),.lst (List.map .int ys),.dk (rkD U),.dk (ptD J)]/\Fq U M J/\xs.length <= 30/\ys.length <= 30/\P (.bl (decide (lng U M J xs = lng U M J ys)))
theorem AkE (T:Txt K mg t):Binds K t.d_qba ["_law_one","_law_other_here","_law_ranks_here","_law_parts_here"] []:=T.F_qba.binds (ps:=["_law_one","_law_other_here","_law_ranks_here","_law_parts_here"]) fun _ _ _ _ _ _ us hl=>match us,hl with | [_,_,_,_],_=>rfl
theorem AhL (T:Txt K mg t):FnOk P w K mg base CX0 2 t.f_qba t.d_qba ["_law_one","_law_other_here","_law_ranks_here","_law_parts_here"] (spOf K t.C_Book [false,false,false,false] .sh Ab3):=by
 refine T.F_qba.ok sc_qba (fun vs H Q E h=>h.len) (fun cdv A outer s H vs Q E hr h=>?_)
 have hu:=Co hr
 have hu64:=hr.units
 refine ⟨_,(Be (Bs (i:=4) sc_qba.nd rfl (Or.inl rfl) (Bn (AdQ T) (hr.mono (by decide)) rfl T.m_qbj T.F_qbj.kp (AfO T) .nil Bt (Ba (Bn (Agj T) (hr.mono (by decide)) rfl T.m_qr T.F_qr.kp (AhO T) .nil Bt (Ba (pv 0) (Ba (pv 3) Bc))) (Ba (pv 2) Bc))))
   (Be (Bs (i:=5) sc_qba.nd rfl (Or.inl rfl) (Bn (AdQ T) (hr.mono (by decide)) rfl T.m_qbj T.F_qbj.kp (AfO T) .nil Bt (Ba (Bn (Agj T) (hr.mono (by decide)) rfl T.m_qr T.F_qr.kp (AhO T) .nil Bt (Ba (pv 1) (Ba (pv 3) Bc))) (Ba (pv 2) Bc))))
   (Be (Fj (Cl Tt (Cj (Cu K) rfl T.z_len PySem.boot_len (Ba (pv 4) Bc)) (Cj (Cu K) rfl T.z_len PySem.boot_len (Ba (pv 5) Bc)) (Ck _))
    (Bi (Cc Tu))
    Dm)
   (Be (Df PassesOwn.never rfl (Gz rfl T.z_range (Ba (Cj (Cu K) rfl T.z_len PySem.boot_len (Ba (pv 4) Bc)) Bc)) (Br (i:=6) sc_qba.nd rfl (Or.inl rfl))
    (Be (Fj (Cl Tt (Cj (Cu K) rfl T.z_len PySem.boot_len (Ba (Ca (Do K) (pv 4) (pv 6) (fun _ _=>rfl)) Bc)) (Cj (Cu K) rfl T.z_len PySem.boot_len (Ba (Ca (Do K) (pv 5) (pv 6) (fun _ _=>rfl)) Bc)) (Ck _))
    (Bi (Cc Tu))
    Dm)
   (Bi (Df PassesOwn.never rfl (Cq (Ca (Do K) (pv 4) (pv 6) (fun _ _=>rfl))) (Br (i:=7) sc_qba.nd rfl (Or.inl rfl))
    (Be (Bs (i:=8) sc_qba.nd rfl (by first | exact Or.inl rfl | exact Or.inr rfl) (Js hu (pv 2) (pv 7) Bf ⟨rfl,rfl,rfl,rfl⟩))
   (Be (Rp 1 [2,8] ["_law_each","_law_ranks_here","_law_rank"] ["_law_ranks_here","_law_rank"] rfl (Cq (Ca (Do K) (pv 4) (pv 6) (fun _ _=>rfl))) rfl (fun j y e1 i e2=>match j,e1,e2 with | 0,e1,e2=>by cases e1; cases e2; exact ⟨rfl,rfl,rfl,by decide +kernel⟩ | 1,e1,e2=>by cases e1; cases e2; exact ⟨rfl,rfl,rfl,by decide +kernel⟩ | _ + 2,_,e2=>by simp at e2) (List.forall_mem_cons.mpr ⟨rfl,List.forall_mem_cons.mpr ⟨rfl,fun _ h=>nomatch h⟩⟩) (by decide +kernel) (fun _ _ _ _=>(Br (i:=0) (show List.Nodup (["_law_each","_law_ranks_here","_law_rank"]:List Str) by decide +kernel) rfl (Or.inl rfl))) (fun _ _ _ _=>(Jv (Cl Fo (Js hu (pv 1) (pv 0) Bf ⟨rfl,rfl,rfl,rfl⟩) (pv 2) (Ck _)))) (fun _ _ _ _=>(pv 0)) rfl (by decide +kernel) rfl (by decide +kernel) (fun _=>rfl) (i:=9) sc_qba.nd rfl (Or.inl rfl) rfl)
   (Bi (Fj (Cl (Aaz K hu64) (pv 9) (Lu 1 [2,8] ["_law_each","_law_ranks_here","_law_rank"] ["_law_ranks_here","_law_rank"] rfl (Cq (Ca (Do K) (pv 5) (pv 6) (fun _ _=>rfl))) rfl (fun j y e1 i e2=>match j,e1,e2 with | 0,e1,e2=>by cases e1; cases e2; exact ⟨rfl,rfl,rfl,by decide +kernel⟩ | 1,e1,e2=>by cases e1; cases e2; exact ⟨rfl,rfl,rfl,by decide +kernel⟩ | _ + 2,_,e2=>by simp at e2) (List.forall_mem_cons.mpr ⟨rfl,List.forall_mem_cons.mpr ⟨rfl,fun _ h=>nomatch h⟩⟩) (by decide +kernel) (fun _ _ _ _=>(Br (i:=0) (show List.Nodup (["_law_each","_law_ranks_here","_law_rank"]:List Str) by decide +kernel) rfl (Or.inl rfl))) (fun _ _ _ _=>(Jv (Cl Fo (Js hu (pv 1) (pv 0) Bf ⟨rfl,rfl,rfl,rfl⟩) (pv 2) (Ck _)))) (fun _ _ _ _=>(pv 0)) rfl (by decide +kernel) rfl (by decide +kernel)) (Ck _))
    (Bi (Cc Tu))
    Dm))))))))
   (Bi (Cc Tu)))))),?_⟩
 try dsimp only [Ce,By]
 refine Dr h (by decide) (Bv (Cs (Xr (Bx (EF.eb (Dz (Bx Bb (Bx Bb Bp)))) (Bx Bb Bp))))
   (Bv (Cs (Xr (Bx (EF.eb (Dz (Bx Bb (Bx Bb Bp)))) (Bx Bb Bp))))
   (Bv (Je (Fl (EU.eb (AbX (EU.eb (Fz (Bx Bb Bp))) (EU.eb (Fz (Bx Bb Bp))))))
    (Jj Vk)
    Gf)
   (Bv (Ahx (Bx (EU.eb (Fz (Bx Bb Bp))) Bp) (Ch (top:=10))
    (Bv (Je (Fl (EU.eb (AbX (EU.eb (Fz (Bx (EU.eb (Fs Bb Bb)) Bp))) (EU.eb (Fz (Bx (EU.eb (Fs Bb Bb)) Bp))))))
    (Jj Vk)
    Gf)
   (Qg (Fs Bb Bb) (Ch (top:=10))
    (Bv (Cs (Rf Bb Bq))
   (Bv (Cs (EF.eu (Gc (EU.eb (Fs Bb Bb)) (Ch (top:=1)) (Fl (EU.eb (Jp (EU.eb (Rf Bb Bq)) Bb))) De)))
   (Je (Fl (EU.eb (Aaa Bb (EF.eb (Gc (EU.eb (Fs Bb Bb)) (Ch (top:=1)) (Fl (EU.eb (Jp (EU.eb (Rf Bb Bq)) Bb))) De)))))
    (Jj Vk)
    Gf))))))
   (Jj Vk))))) (fun ps P hp=>?_)
 clear h hu hu64 hr
 obtain ⟨U,M,J,xs,ys,rfl,bk,lx,ly,q⟩:=hp
 simp only [Fc,List.zipWith_cons_cons,List.zipWith_nil_left,List.zipWith_nil_right,List.length_cons,List.length_nil,Nat.zero_add,Nat.reduceAdd,Nat.reduceSub,List.replicate_succ,List.replicate_zero,Bool.false_eq_true,if_false,if_true,List.cons_append,List.nil_append,Gs]
 have ox:=Ju J xs
 have oy:=Ju J ys
 have en:=fun s=>Aet bk.jo s
 walk_at "pr"
 refine ⟨J,xs,rfl,en,by omega,?_⟩
 walk_at "pr"
 refine ⟨U,opT J xs,rfl,by omega,?_⟩
 walk_at "pr"
 refine ⟨J,ys,rfl,en,by omega,?_⟩
 walk_at "pr"
 refine ⟨U,opT J ys,rfl,by omega,?_⟩
 rw [AjD bk,AaO bk,AaO bk]
 have key:=Acg bk xs ys
 have gl1:=(Fw (Bw U M) xs).ln
 generalize hG:(grp (Bw U M) xs).map (opT J) = gs at key
 generalize hH:(grp (Bw U M) ys).map (opT J) = hs at key
 have lG:gs.length <= 30:=by rw [<- hG,List.length_map]; omega
 have eG:∀ g ∈ gs,g.length <= 300:=fun g hg=>by
  rw [<- hG] at hg
  obtain ⟨w,hw,rfl⟩:=List.mem_map.mp hg
  have:=Za (Bw U M) xs hw
  have:=Ju J w
  omega
 have eH:∀ g ∈ hs,g.length <= 300:=fun g hg=>by
  rw [<- hH] at hg
  obtain ⟨w,hw,rfl⟩:=List.mem_map.mp hg
  have:=Za (Bw U M) ys hw
  have:=Ju J w
  omega
 walk_at "pr"
 rw [List.length_map,List.length_map]
 by_cases el:gs.length = hs.length
 rotate_left
 ·rw [decide_eq_false (by omega:¬ (gs.length:Int) = hs.length)]
  walk_at "pr"
  rw [decide_eq_false (fun z=>el (key.mp z).1)] at q
  exact q
 rw [decide_eq_true (by omega:(gs.length:Int) = hs.length)]
 walk_at "pr"
 rotate_left
 ·rw [List.length_map]; omega
 rw [List.length_map,Int.toNat_natCast]
 refine ⟨fun k ρ=>∃ v6 v7 v8 v9,ρ = [.bo (lsI xs),.bo (lsI ys),.bo (.dk (rkD U)),.bo (.dk (ptD J)),.sh (.lst (gs.map lsI)),.sh (.lst (hs.map lsI)),v6,v7,v8,v9]/\∀ j,j < k->∀ g h,gs[j]? = some g->hs[j]? = some h->Aee U g h,⟨_,_,_,_,rfl,fun j hj=>by omega⟩,?_,?_⟩
 ·rintro k ρ hk ⟨v6,v7,v8,v9,rfl,hA⟩
  have hk2:k < hs.length:=by omega
  have g1:=List.getElem?_eq_getElem hk
  have g2:=List.getElem?_eq_getElem hk2
  generalize gs[k] = g at g1
  generalize hs[k] = h at g2
  have lg:=eG g (List.mem_of_getElem? g1)
  have lh:=eH h (List.mem_of_getElem? g2)
  rw [Int.zero_add]
  walk_at "pr"
  refine Gw (f:=lsI) g1 rfl ?_
  walk_at "pr"
  refine Gw (f:=lsI) g2 rfl ?_
  walk_at "pr"
  rw [List.length_map,List.length_map]
  by_cases e2:g.length = h.length
  rotate_left
  ·rw [decide_eq_false (by omega:¬ (g.length:Int) = h.length)]
   walk_at "pr"
   rw [decide_eq_false (fun z=>e2 ((key.mp z).2 k g h g1 g2).1)] at q
   exact q
  rw [decide_eq_true (by omega:(g.length:Int) = h.length)]
  walk_at "pr"
  refine Gw (f:=lsI) g1 rfl ?_
  walk_at "pr"
  refine ⟨fun i ρ=>∃ v7 v8 v9,ρ = [.bo (lsI xs),.bo (lsI ys),.bo (.dk (rkD U)),.bo (.dk (ptD J)),.sh (.lst (gs.map lsI)),.sh (.lst (hs.map lsI)),.sh (.int k),v7,v8,v9]/\∀ j,j < i->∀ s,g[j]? = some s->(g.filter fun d=>decide (Bz U d = Bz U s)) = h.filter fun d=>decide (Bz U d = Bz U s),⟨_,_,_,rfl,fun j hj=>by omega⟩,?_,?_⟩
  ·rintro i p ρ hp ⟨v7,v8,v9,rfl,hB⟩
   rw [List.getElem?_map] at hp
   obtain ⟨s,hs',rfl⟩:=Option.map_eq_some_iff.mp hp
   walk_at "pr"
   rw [Tn]
   walk_at "pr"
   refine Gw (f:=lsI) g1 rfl ?_
   walk_at "pr"
   refine ⟨by rw [List.length_map]; omega,?_⟩
   refine Fu (f:=fun d=>if decide (Bz U d = Bz U s) = true then some (.int d) else none) ?_ (fun d hd Z hZ=>?_)
   rotate_left
   ·walk_at "cp"
    walk_at "pr"
    rw [Tn]
    walk_at "pr"
    refine Fi (fun h=>?_) (fun h=>?_)
    ·rw [if_pos h] at hZ
     walk_at "pr"
     exact hZ
    ·rw [if_neg h] at hZ
     exact hZ
   rw [Fv]
   walk_at "pr"
   refine Gw (f:=lsI) g2 rfl ?_
   walk_at "pr"
   refine ⟨by rw [List.length_map]; omega,?_⟩
   refine Fu (f:=fun d=>if decide (Bz U d = Bz U s) = true then some (.int d) else none) ?_ (fun d hd Z hZ=>?_)
   rotate_left
   ·walk_at "cp"
    walk_at "pr"
    rw [Tn]
    walk_at "pr"
    refine Fi (fun h=>?_) (fun h=>?_)
    ·rw [if_pos h] at hZ
     walk_at "pr"
     exact hZ
    ·rw [if_neg h] at hZ
     exact hZ
   rw [Fv]
   refine AdU ?_
   walk_at "pr"
   by_cases e3:(g.filter fun d=>decide (Bz U d = Bz U s)) = h.filter fun d=>decide (Bz U d = Bz U s)
   ·rw [decide_eq_true e3]
    walk_at "pr"
    refine ⟨_,_,_,rfl,fun j hj s' hs''=>?_⟩
    by_cases z:j = i
    ·subst z
     rw [hs'] at hs''
     cases hs''
     exact e3
    ·exact hB j (by omega) s' hs''
   ·rw [decide_eq_false e3]
    walk_at "pr"
    rw [decide_eq_false (fun z=>e3 (((key.mp z).2 k g h g1 g2).2 s (List.mem_of_getElem? hs')))] at q
    exact q
  ·rintro ρ ⟨v7,v8,v9,rfl,hB⟩
   rw [List.length_map] at hB
   refine ⟨_,_,_,_,rfl,fun j hj g' h' e4 e5=>?_⟩
   by_cases z:j = k
   ·subst z
    rw [g1] at e4
    rw [g2] at e5
    cases e4
    cases e5
    exact ⟨e2,fun s hs'=>by
     obtain ⟨i,hi⟩:=List.mem_iff_getElem?.mp hs'
     exact hB i (List.getElem?_eq_some_iff.mp hi).1 s hi⟩
   ·exact hA j (by omega) g' h' e4 e5
 rintro ρ ⟨v6,v7,v8,v9,rfl,hA⟩
 walk_at "pr"
 rw [decide_eq_true (key.mpr ⟨el,fun j g h e1 e2=>hA j (List.getElem?_eq_some_iff.mp e1).1 g h e1 e2⟩)] at q
 exact q
def Acz:PSp:=fun ps P=>∃ U M J ts c,ps = [.lst (List.map .int ts),.tup [.lst (List.map sgP U),.lst (List.map prP M),.lst (List.map jnP J)],.dk (rkD U),.int c]/\ts.length <= 27/\U.length <= 100/\J.length <= 100/\∀ us:List Int,us.length <= ts.length + 1->P (.lst (List.map .int us))
theorem Ak0 (T:Txt K mg t):Binds K t.d_qbf ["_law_text_here","_law_lists_here","_law_ranks_here","_law_cell"] []:=T.F_qbf.binds (ps:=["_law_text_here","_law_lists_here","_law_ranks_here","_law_cell"]) fun _ _ _ _ _ _ us hl=>match us,hl with | [_,_,_,_],_=>rfl
theorem Ai3 (T:Txt K mg t):FnOk P w K mg base CX0 1 t.f_qbf t.d_qbf ["_law_text_here","_law_lists_here","_law_ranks_here","_law_cell"] (spOf K t.C_Book [false,false,false,false] .fr Acz):=by
 refine T.F_qbf.ok sc_qbf (fun vs H Q E h=>h.len) (fun cdv A outer s H vs Q E hr h=>?_)
 have hu:=Co hr
 have hu64:=hr.units
 refine ⟨_,(Be (Bs (i:=4) sc_qbf.nd rfl (by first | exact Or.inl rfl | exact Or.inr rfl) (Lu 1 [2] ["_law_sign","_law_ranks_here"] ["_law_ranks_here"] rfl (Cq (pv 0)) rfl (fun j y e1 i e2=>match j,e1,e2 with | 0,e1,e2=>by cases e1; cases e2; exact ⟨rfl,rfl,rfl,by decide +kernel⟩ | _ + 1,_,e2=>by simp at e2) (List.forall_mem_cons.mpr ⟨rfl,fun _ h=>nomatch h⟩) (by decide +kernel) (fun _ _ _ _=>(Br (i:=0) (show List.Nodup (["_law_sign","_law_ranks_here"]:List Str) by decide +kernel) rfl (Or.inl rfl))) (fun _ _ _ _=>Gp) (fun _ _ _ _=>(Js hu (pv 1) (pv 0) Bf ⟨rfl,rfl,rfl,rfl⟩)) rfl (by decide +kernel) rfl (by decide +kernel)))
   (Be (Rp 1 [4] ["_law_k","_law_ranked"] ["_law_ranked"] rfl (Acf rfl T.z_range (Ba Bf (Ba (Cj (Cu K) rfl T.z_len PySem.boot_len (Ba (pv 0) Bc)) Bc))) rfl (fun j y e1 i e2=>match j,e1,e2 with | 0,e1,e2=>by cases e1; cases e2; exact ⟨rfl,rfl,rfl,by decide +kernel⟩ | _ + 1,_,e2=>by simp at e2) (List.forall_mem_cons.mpr ⟨rfl,fun _ h=>nomatch h⟩) (by decide +kernel) (fun _ _ _ _=>(Br (i:=0) (show List.Nodup (["_law_k","_law_ranked"]:List Str) by decide +kernel) rfl (Or.inl rfl))) (fun _ _ _ _=>(Jv (PW.pt (Va (Cl Xi (Ca (Do K) (pv 1) (pv 0) (fun _ _=>rfl)) Bf (Ck _)) (Tr (Cl Fo (Ca (Do K) (pv 1) (pv 0) (fun _ _=>rfl)) (Ca (Do K) (pv 1) (Bo Sv (pv 0) Bf) (fun _ _=>rfl)) (Ck _))))))) (fun _ _ _ _=>(pv 0)) rfl (by decide +kernel) rfl (by decide +kernel) (fun _=>rfl) (i:=5) sc_qbf.nd rfl (Or.inl rfl) rfl)
   (Be (Bs (i:=6) sc_qbf.nd rfl (Or.inl rfl) (Bo Db (Bo Db (Lg 1 ["_law_row"] rfl rfl (Cq (Ca (Cp K) (pv 1) Bf (fun _ _=>rfl))) (fun _ _ _ _=>(Br (i:=0) (show List.Nodup (["_law_row"]:List Str) by decide +kernel) rfl (Or.inl rfl))) (fun _ _ _ _=>Gp) (fun _ _ _ _=>(Ca (Cp K) (pv 0) Bf (fun _ _=>rfl))) (by decide +kernel) (by decide +kernel) rfl (by decide +kernel)) (Lg 1 ["_law_join"] rfl rfl (Cq (Ca (Cp K) (pv 1) Bf (fun _ _=>rfl))) (fun _ _ _ _=>(Br (i:=0) (show List.Nodup (["_law_join"]:List Str) by decide +kernel) rfl (Or.inl rfl))) (fun _ _ _ _=>Gp) (fun _ _ _ _=>(Ca (Cp K) (pv 0) Bf (fun _ _=>rfl))) (by decide +kernel) (by decide +kernel) rfl (by decide +kernel))) (Cw (Ba Bf Bc))))
   (Be (Bs (i:=7) sc_qbf.nd rfl (Or.inl rfl) (Bo Cv (Bo Fe (pv 3) Bf) (Bo Ga (Cj (Cu K) rfl T.z_len PySem.boot_len (Ba (pv 0) Bc)) Bf)))
   (Be (Bs (i:=8) sc_qbf.nd rfl (Or.inl rfl) (Ca (Do K) (pv 6) (Bo Cv (Bo Fe (pv 3) Bf) (Cj (Cu K) rfl T.z_len PySem.boot_len (Ba (pv 6) Bc))) (fun _ _=>rfl)))
   (Be (Fj (PW.pt (Va (Cl Fo (Bo Cv (pv 3) Bf) Bf (Ck _)) (Tr (Cl Xi (Cj (Cu K) rfl T.z_len PySem.boot_len (Ba (pv 5) Bc)) Bf (Ck _)))))
    (Be (Bs (i:=9) sc_qbf.nd rfl (Or.inl rfl) (Ca (Do K) (pv 5) (Bo Cv (Bo Fe (pv 3) Bf) (Cj (Cu K) rfl T.z_len PySem.boot_len (Ba (pv 5) Bc))) (fun _ _=>rfl)))
   (Bi (Cc (Bo Db (Bo Db (Di (Dq K) (pv 0) Dy (Da (Bo Sv (pv 9) Bf))) (Cw (Ba (Ca (Do K) (pv 0) (pv 9) (fun _ _=>rfl)) (Ba (Ca (Do K) (pv 0) (Bo Sv (pv 9) Bf) (fun _ _=>rfl)) Bc)))) (Di (Dq K) (pv 0) (Da (Bo Ga (pv 9) Bf)) Dy)))))
    Dm)
   (Be (Fj (Cl Fo (Bo Cv (pv 3) Bf) Bf (Ck _))
    (Bi (Cc (Bo Db (Di (Dq K) (pv 0) Dy (Da (pv 7))) (Di (Dq K) (pv 0) (Da (Bo Ga (pv 7) Bf)) Dy))))
    Dm)
   (Be (Fj (Cl Fo (Bo Cv (pv 3) Bf) Bf (Ck _))
    (Bi (Cc (Bo Db (Bo Db (Di (Dq K) (pv 0) Dy (Da (pv 7))) (Cw (Ba (pv 8) Bc))) (Di (Dq K) (pv 0) (Da (pv 7)) Dy))))
    Dm)
   (Bi (Cc (Bo Db (Bo Db (Di (Dq K) (pv 0) Dy (Da (pv 7))) (Cw (Ba (pv 8) Bc))) (Di (Dq K) (pv 0) (Da (Bo Ga (pv 7) Bf)) Dy)))))))))))),?_⟩
 try dsimp only [Ce,By]
 refine Dr h (by decide) (Bv (Cs (EF.eu (Gc Bb (Ch (top:=1)) Jf (Rf Bb Bq))))
   (Bv (Cs (EF.eu (AdL (Bx (EU.eb Bq) (Bx (EU.eb (Fz (Bx Bb Bp))) Bp)) (Ch (top:=1)) (Vf (Fl (EU.eb (Gv (fun _ _ _=>.bl _) (EU.eb (Fs Bb Bb)) (EU.eb Bq)))) (Fl (EU.eb (Jp (EU.eb (Fs Bb Bb)) (EU.eb (Fs Bb (EU.eb (Gv (fun _ _ _=>.int _) Bb (EU.eb Bq))))))))) De)))
   (Bv (Cs (EF.eu (Dx (EF.eb (Dx (EF.eb (Gc (EU.eb (Cz Bb (EU.eb Bq))) (Ch (top:=1)) Jf (Cz Bb (EU.eb Bq)))) (EF.eb (Gc (EU.eb (Cz Bb (EU.eb Bq))) (Ch (top:=1)) Jf (Cz Bb (EU.eb Bq)))))) (EF.eb (Fm 1 (Dg Bq Bp))))))
   (Bv (Cs (Fx (fun _ _ _=>.int _) (EU.eb (Fx (fun _ _ _=>.int _) Bb (EU.eb Bq))) (EU.eb (Gv (fun _ _ _=>.int _) (EU.eb (Fz (Bx Bb Bp))) (EU.eb Bq)))))
   (Bv (Cs (Fs Bb (EU.eb (Fx (fun _ _ _=>.int _) (EU.eb (Fx (fun _ _ _=>.int _) Bb (EU.eb Bq))) (EU.eb (Fz (Bx Bb Bp)))))))
   (Bv (Je (Vf (Fl (EU.eb (Jp (EU.eb (Fx (fun _ _ _=>.int _) Bb (EU.eb Bq))) (EU.eb Bq)))) (Fl (EU.eb (Gv (fun _ _ _=>.bl _) (EU.eb (Fz (Bx Bb Bp))) (EU.eb Bq)))))
    (Bv (Cs (Fs Bb (EU.eb (Fx (fun _ _ _=>.int _) (EU.eb (Fx (fun _ _ _=>.int _) Bb (EU.eb Bq))) (EU.eb (Fz (Bx Bb Bp)))))))
   (Gq (Dx (EF.eb (Dx (EF.eb (Gm Bb Gb (Dv (EU.eb (Gv (fun _ _ _=>.int _) Bb (EU.eb Bq)))))) (EF.eb (Fm 2 (Dg (Fs Bb Bb) (Dg (Fs Bb (EU.eb (Gv (fun _ _ _=>.int _) Bb (EU.eb Bq)))) Bp)))))) (EF.eb (Gm Bb (Dv (EU.eb (Gv (fun _ _ _=>.int _) Bb (EU.eb Bq)))) Gb)))))
    Gf)
   (Bv (Je (Fl (EU.eb (Jp (EU.eb (Fx (fun _ _ _=>.int _) Bb (EU.eb Bq))) (EU.eb Bq))))
    (Gq (Dx (EF.eb (Gm Bb Gb (Dv Bb))) (EF.eb (Gm Bb (Dv (EU.eb (Gv (fun _ _ _=>.int _) Bb (EU.eb Bq)))) Gb))))
    Gf)
   (Bv (Je (Fl (EU.eb (Jp (EU.eb (Fx (fun _ _ _=>.int _) Bb (EU.eb Bq))) (EU.eb Bq))))
    (Gq (Dx (EF.eb (Dx (EF.eb (Gm Bb Gb (Dv Bb))) (EF.eb (Fm 1 (Dg De Bp))))) (EF.eb (Gm Bb (Dv Bb) Gb))))
    Gf)
   (Gq (Dx (EF.eb (Dx (EF.eb (Gm Bb Gb (Dv Bb))) (EF.eb (Fm 1 (Dg De Bp))))) (EF.eb (Gm Bb (Dv (EU.eb (Gv (fun _ _ _=>.int _) Bb (EU.eb Bq)))) Gb)))))))))))) (fun ps P hp=>?_)
 clear h hu hu64 hr
 obtain ⟨U,M,J,ts,c,rfl,lt,lU,lJ,q⟩:=hp
 simp only [Fc,List.zipWith_cons_cons,List.zipWith_nil_left,List.zipWith_nil_right,List.length_cons,List.length_nil,Nat.zero_add,Nat.reduceAdd,Nat.reduceSub,List.replicate_succ,List.replicate_zero,Bool.false_eq_true,if_false,if_true,List.cons_append,List.nil_append,Gs]
 have cl:∀ lo hi,(Ft (ts.map PV.int) lo hi).length <= ts.length:=fun lo hi=>Nat.le_trans (Xs _ _ _) (by rw [List.length_map]; exact Nat.le_refl _)
 walk_at "pr"
 refine ⟨by rw [List.length_map]; omega,?_⟩
 refine Fu (f:=fun d=>some (.int (Bz U d))) ?_ (fun d hd Z hZ=>?_)
 rotate_left
 ·walk_at "cp"
  walk_at "pr"
  rw [Tn]
  exact hZ
 rw [Lv]
 walk_at "pr"
 rw [List.length_map]
 refine ⟨1,ts.length,rfl,by omega,by omega,fun k rs=>∃ ks:List Nat,rs = ks.map (fun x:Nat=>PV.int (x:Int))/\∀ x ∈ ks,1 <= x/\x < ts.length,⟨[],rfl,fun x h=>by cases h⟩,?_,?_⟩
 ·rintro n rs hn ⟨ks,rfl,hks⟩
  have h1:1 + n < ts.length:=by omega
  have g1:(ts.map (Bz U))[1 + n]? = some (Bz U ts[1 + n]):=by rw [List.getElem?_map,List.getElem?_eq_getElem h1]; rfl
  have g2:(ts.map (Bz U))[n]? = some (Bz U ts[n]):=by rw [List.getElem?_map,List.getElem?_eq_getElem (by omega)]; rfl
  have app:∃ ks':List Nat,(ks.map (fun x:Nat=>PV.int (x:Int)) ++ [.int (1 + (n:Int))]) = ks'.map (fun x:Nat=>PV.int (x:Int))/\∀ x ∈ ks',1 <= x/\x < ts.length:=⟨ks ++ [1 + n],by rw [List.map_append]; simp,fun x hx=>(List.mem_append.mp hx).elim (hks x) fun e=>by rw [List.mem_singleton.mp e]; omega⟩
  walk_at "cp"
  walk_at "pr"
  refine Gw g1 (by omega) ?_
  walk_at "pr"
  refine Fi (fun h=>?_) (fun h=>?_)
  ·walk_at "pr"
   refine Gw g1 (by omega) ?_
   walk_at "pr"
   refine Gw g2 (by omega) ?_
   walk_at "pr"
   refine Fi (fun h=>?_) (fun h=>?_)
   ·walk_at "pr"
    exact app
   ·exact ⟨ks,rfl,hks⟩
  ·exact ⟨ks,rfl,hks⟩
 rintro rs ⟨ks,rfl,hks⟩
 walk_at "pr"
 refine ⟨by rw [List.length_map]; omega,?_⟩
 refine Fu (f:=fun s:Sg=>some (.int s.1)) ?_ (fun d hd Z hZ=>?_)
 rotate_left
 ·walk_at "pr"
  exact hZ
 rw [Lv]
 walk_at "pr"
 refine ⟨by rw [List.length_map]; omega,?_⟩
 refine Fu (f:=fun s:Jn=>some (.int s.1)) ?_ (fun d hd Z hZ=>?_)
 rotate_left
 ·walk_at "pr"
  exact hZ
 rw [Lv]
 walk_at "pr"
 all_goals try (first | (show Op _ _; exact ⟨by omega,by omega⟩) | (simp only [List.length_append,List.length_map,List.length_cons,List.length_nil]; omega))
 rw [show (List.map PV.int (U.map Prod.fst) ++ List.map PV.int (J.map Prod.fst) ++ [PV.int 7]) = (U.map Prod.fst ++ J.map Prod.fst ++ [7]).map PV.int by simp]
 have lS:0 < (U.map Prod.fst ++ J.map Prod.fst ++ [7]).length:=by simp only [List.length_append,List.length_cons]; omega
 generalize U.map Prod.fst ++ J.map Prod.fst ++ [7] = sg at lS
 rw [List.length_map,List.length_map]
 have g1:=Int.emod_nonneg (c / 128) (show (sg.length:Int) ≠ 0 by omega)
 have g2:=Int.emod_lt_of_pos (c / 128) (show (0:Int) < sg.length by omega)
 obtain ⟨j,hj⟩:=Int.eq_ofNat_of_zero_le g1
 rw [hj] at g2
 have hjl:j < sg.length:=by omega
 refine Gw (l:=sg) (j:=j) (a:=sg[j]) (List.getElem?_eq_getElem hjl) hj ?_
 generalize sg[j] = sgn
 have a1:=Int.emod_nonneg (c / 4) (show ((ts.length:Int) + 1) ≠ 0 by omega)
 have a2:=Int.emod_lt_of_pos (c / 4) (show 0 < ((ts.length:Int) + 1) by omega)
 obtain ⟨m,hm⟩:=Int.eq_ofNat_of_zero_le a1
 rw [hm] at a2 ⊢
 have hmn:m <= ts.length:=by omega
 have c1:=cl none (some (m:Int))
 have c2:=cl (some (m:Int)) none
 have c3:=cl (some ((m:Int) + 1)) none
 have c0:∀ (lo hi:Option Int),(Ft (List.map PV.int ts) lo hi).length <= 27:=fun lo hi=>Nat.le_trans (cl lo hi) lt
 have rest:∀ d:Jc,True:=fun _=>trivial
 clear rest
 have q1:P (.lst (Ft (ts.map PV.int) none (some (m:Int)) ++ Ft (ts.map PV.int) (some ((m:Int) + 1)) none)):=by
  rw [Fh,Fh,Vs,show (m:Int) + 1 = ((m + 1:Nat):Int) by omega,Vl,<- List.map_append]
  exact q _ (by rw [List.length_append,List.length_take,List.length_drop]; omega)
 have q2:P (.lst (Ft (ts.map PV.int) none (some (m:Int)) ++ [.int sgn] ++ Ft (ts.map PV.int) (some (m:Int)) none)):=by
  rw [Fh,Fh,Vs,Vl,show [PV.int sgn] = [sgn].map PV.int from rfl,<- List.map_append,<- List.map_append]
  exact q _ (by simp only [List.length_append,List.length_take,List.length_drop,List.length_cons,List.length_nil]; omega)
 have q3:P (.lst (Ft (ts.map PV.int) none (some (m:Int)) ++ [.int sgn] ++ Ft (ts.map PV.int) (some ((m:Int) + 1)) none)):=by
  rw [Fh,Fh,Vs,show (m:Int) + 1 = ((m + 1:Nat):Int) by omega,Vl,show [PV.int sgn] = [sgn].map PV.int from rfl,<- List.map_append,<- List.map_append]
  exact q _ (by simp only [List.length_append,List.length_take,List.length_drop,List.length_cons,List.length_nil]; omega)
 refine AfK ?_
 refine AeI ?_
 walk_at "px"
 all_goals try (first | decide | (show Op _ _; exact ⟨by omega,by omega⟩) | (simp only [List.length_append,List.length_map,List.length_cons,List.length_nil]; omega))
 refine Fi (fun h1=>?_) (fun h1=>?_)
 ·walk_at "px"
  refine Fi (fun h2=>?_) (fun h2=>?_)
  ·have k0:0 < ks.length:=by
    have:=of_decide_eq_true h2
    rw [List.length_map] at this
    omega
   walk_at "pr"
   all_goals try (first | (show Op _ _; exact ⟨by omega,by omega⟩) | (simp only [List.length_map]; omega))
   rw [List.length_map]
   have e1:=Int.emod_nonneg (c / 4) (show (ks.length:Int) ≠ 0 by omega)
   have e2:=Int.emod_lt_of_pos (c / 4) (show (0:Int) < ks.length by omega)
   obtain ⟨j2,hj2⟩:=Int.eq_ofNat_of_zero_le e1
   rw [hj2] at e2
   have hjk:j2 < ks.length:=by omega
   refine Gw (l:=ks) (f:=fun x:Nat=>PV.int (x:Int)) (j:=j2) (a:=ks[j2]) (List.getElem?_eq_getElem hjk) hj2 ?_
   obtain ⟨x1,x2⟩:=hks _ (List.getElem_mem hjk)
   generalize ks[j2] = x at x1 x2
   have d1:=c0 none (some ((x:Int) - 1))
   have d2:=c0 (some ((x:Int) + 1)) none
   walk_at "pr"
   refine Gw (l:=ts) (j:=x) (a:=ts[x]) (List.getElem?_eq_getElem x2) rfl ?_
   walk_at "pr"
   refine Gw (l:=ts) (j:=x - 1) (a:=ts[x - 1]) (List.getElem?_eq_getElem (by omega)) (by omega) ?_
   walk_at "pr"
   all_goals try (first | omega | (simp only [List.length_append,List.length_cons,List.length_nil]; omega))
   rw [Fh,Fh,show (x:Int) - 1 = ((x - 1:Nat):Int) by omega,Vs,show (x:Int) + 1 = ((x + 1:Nat):Int) by omega,Vl,show [PV.int ts[x],PV.int ts[x - 1]] = [ts[x],ts[x - 1]].map PV.int from rfl,<- List.map_append,<- List.map_append]
   exact q _ (by simp only [List.length_append,List.length_take,List.length_drop,List.length_cons,List.length_nil]; omega)
  ·walk_at "pr"
   all_goals try (first | decide | (show Op _ _; exact ⟨by omega,by omega⟩) | (simp only [List.length_append,List.length_map,List.length_cons,List.length_nil]; omega))
   refine Fi (fun h3=>?_) (fun h3=>?_)
   ·walk_at "pr"
    all_goals try (first | omega | (simp only [List.length_append,List.length_cons,List.length_nil]; omega))
    all_goals exact q1
   ·walk_at "pr"
    all_goals try (first | decide | (show Op _ _; exact ⟨by omega,by omega⟩) | (simp only [List.length_append,List.length_map,List.length_cons,List.length_nil]; omega))
    refine Fi (fun h4=>?_) (fun h4=>?_)
    ·walk_at "pr"
     all_goals try (first | omega | (simp only [List.length_append,List.length_cons,List.length_nil]; omega))
     all_goals exact q2
    ·walk_at "pr"
     all_goals try (first | omega | (simp only [List.length_append,List.length_cons,List.length_nil]; omega))
     all_goals exact q3
 ·walk_at "pr"
  all_goals try (first | decide | (show Op _ _; exact ⟨by omega,by omega⟩) | (simp only [List.length_append,List.length_map,List.length_cons,List.length_nil]; omega))
  refine Fi (fun h3=>?_) (fun h3=>?_)
  ·walk_at "pr"
   all_goals try (first | omega | (simp only [List.length_append,List.length_cons,List.length_nil]; omega))
   all_goals exact q1
  ·walk_at "pr"
   all_goals try (first | decide | (show Op _ _; exact ⟨by omega,by omega⟩) | (simp only [List.length_append,List.length_map,List.length_cons,List.length_nil]; omega))
   refine Fi (fun h4=>?_) (fun h4=>?_)
   ·walk_at "pr"
    all_goals try (first | omega | (simp only [List.length_append,List.length_cons,List.length_nil]; omega))
    all_goals exact q2
   ·walk_at "pr"
    all_goals try (first | omega | (simp only [List.length_append,List.length_cons,List.length_nil]; omega))
    all_goals exact q3
def Ahs:PSp:=fun ps P=>∃ ns k,ps = [.scr ns,.int k]/\0 <= k/\∀ x:Int,P (.int x)
theorem AiE {C:Addr} {ω:Om} {E:XK} {m n:Bool} {t:TA} {u:UA} (ha:AU K C ω [m,n] t u):EU K C ω (Oz (Yn K) [] E t) (Qz Ahs u) :=
 fun B G0 H0 own G σ H ρ P Q S hu k=>ha B G0 H0 own G σ H ρ _ _ S hu fun vs ps G1 H1 w1 ok ⟨ns,i,e,h0,h⟩=>by
  obtain ⟨v,w,p,q,rfl,e2,r1,r2⟩:=Ub ok
  rw [e] at e2; cases e2
  obtain ⟨a,rfl,sq⟩:=r1.scr w1.i
  rw [r2.int]
  exact ⟨a,ns,i,rfl,sq,h0,k _ _ G1 H1 w1 (.int _) (h _)⟩
theorem Al9 (T:Txt K mg t):Binds K t.d_qbt ["_law_script"] []:=T.F_qbt.binds (ps:=["_law_script"]) fun _ _ _ _ _ _ us hl=>match us,hl with | [_],_=>rfl
theorem Aip (T:Txt K mg t):FnOk P w K mg base CX0 7 t.f_qbt t.d_qbt ["_law_script"] (spOf K t.C_Book [false] .sh Aan):=by
 refine T.F_qbt.ok sc_qbt (fun vs H Q E h=>h.len) (fun cdv A outer s H vs Q E hr h=>?_)
 have hu:=Co hr
 have hu64:=hr.units
 refine ⟨_,(Be (Bs (i:=1) sc_qbt.nd rfl (Or.inl rfl) (Bn (AhQ T) (hr.mono (by decide)) rfl T.m_qbd T.F_qbd.kp (AkH T) .nil Bt (Ba (pv 0) Bc)))
   (Be (Bs (i:=2) sc_qbt.nd rfl (Or.inl rfl) (Bn (Ah1 T) (hr.mono (by decide)) rfl T.m_qbh T.F_qbh.kp (Ale T) .nil Bt (Ba (pv 1) Bc)))
   (Be (Bs (i:=3) sc_qbt.nd rfl (Or.inl rfl) (Bn (Ai2 T) (hr.mono (by decide)) rfl T.m_qbg T.F_qbg.kp (Akj T) .nil Bt (Ba (pv 1) Bc)))
   (Be (Bs (i:=4) sc_qbt.nd rfl (Or.inl rfl) (AgR T.K_Book (AkU T) (hr.mono (by decide)) rfl T.m_Book (AlH T) .nil Bt (Ba (Gy (Fr K) rfl T.z_list PyProof.Rows.boot_list (Ba (Ca (Cp K) (pv 1) Bf (fun _ _=>rfl)) Bc)) (Ba (Gy (Fr K) rfl T.z_list PyProof.Rows.boot_list (Ba (Ca (Cp K) (pv 1) Bf (fun _ _=>rfl)) Bc)) (Ba (Gy (Fr K) rfl T.z_list PyProof.Rows.boot_list (Ba (Ca (Cp K) (pv 1) Bf (fun _ _=>rfl)) Bc)) Bc)))))
   (Be (Bs (i:=5) sc_qbt.nd rfl (Or.inl rfl) (Bn (Aco T) (hr.mono (by decide)) rfl T.m_qbo T.F_qbo.kp (AfG T) .nil Bt (Ba (Vh K (pv 0) (Da Bf) (Da Bf) (Da Bf)) (Ba (pv 1) Bc))))
   (Be (Bs (i:=6) sc_qbt.nd rfl (Or.inl rfl) (Bn (Aco T) (hr.mono (by decide)) rfl T.m_qbo T.F_qbo.kp (AfG T) .nil Bt (Ba (Vh K (pv 0) (Da Bf) (Da Bf) (Da Bf)) (Ba (pv 1) Bc))))
   (Be (Bs (i:=7) sc_qbt.nd rfl (Or.inl rfl) (Bo Cv (Bn (Of T) (hr.mono (by decide)) rfl T.m_qj T.F_qj.kp (Rg T) .nil Bt (Ba (pv 0) (Ba Bf Bc))) (Bo Lb Bf Bf)))
   (Be (Fj (Cl Xi (Bo Cv (pv 7) Bf) Bf (Ck _))
    (Bi (Bs (i:=6) sc_qbt.nd rfl (Or.inl rfl) (Bn (Ai3 T) (hr.mono (by decide)) rfl T.m_qbf T.F_qbf.kp (Ak0 T) .nil Bt (Ba (pv 5) (Ba (pv 1) (Ba (pv 2) (Ba (Bo Fe (pv 7) Bf) Bc)))))))
    Dm)
   (Be (Bs (i:=8) sc_qbt.nd rfl (Or.inl rfl) (Bn (AhL T) (hr.mono (by decide)) rfl T.m_qba T.F_qba.kp (AkE T) .nil Bt (Ba (pv 5) (Ba (pv 6) (Ba (pv 2) (Ba (pv 3) Bc))))))
   (Be (Df PassesOwn.never rfl (Cq (Cw (Ba (Dw (Ba (pv 5) (Ba (pv 6) Bc))) (Ba (Dw (Ba (pv 6) (Ba (pv 5) Bc))) Bc)))) (Br (i:=9) sc_qbt.nd rfl (Or.inl rfl))
    (Be (Bs (i:=10) sc_qbt.nd rfl (Or.inl rfl) (Bn (AcS T) (hr.mono (by decide)) rfl T.m_qbr T.F_qbr.kp (Agm T) .nil Bt (Ba (pv 4) (Ba (Gy (Fr K) rfl T.z_list PyProof.Rows.boot_list (Ba (Ca (Cp K) (pv 9) Bf (fun _ _=>rfl)) Bc)) (Ba (Gy (Fr K) rfl T.z_list PyProof.Rows.boot_list (Ba (Ca (Cp K) (pv 9) Bf (fun _ _=>rfl)) Bc)) Bc)))))
   (Bi (Fj (PW.pt (Xo (Cl Tt (pv 8) (Cj (Th K) rfl T.z_isinstance PyProof.Rows.boot_isinstance (Ba (pv 10) (Ba (Ls (v:=.ty "list") rfl T.z_list PyProof.Rows.boot_list rfl) Bc))) (Ck _)) (Vp (PW.pt (Va (Zq (Yb (pv 8))) (Tr (Vm (Aaw (pv 10)))))))))
    (Bi (Cc Tu))
    Dm))))
   (Bi (Cc (Cj (Th K) rfl T.z_isinstance PyProof.Rows.boot_isinstance (Ba (Bn (AcS T) (hr.mono (by decide)) rfl T.m_qbr T.F_qbr.kp (Agm T) .nil Bt (Ba (pv 4) (Ba (Gy (Fr K) rfl T.z_list PyProof.Rows.boot_list (Ba (pv 5) Bc)) (Ba (Gy (Fr K) rfl T.z_list PyProof.Rows.boot_list (Ba (pv 5) Bc)) Bc)))) (Ba (Ls (v:=.ty "list") rfl T.z_list PyProof.Rows.boot_list rfl) Bc))))))))))))))),?_⟩
 try dsimp only [Ce,By]
 refine Dr h (by decide) (Bv (Cs (Aea (Bx Bb Bp)))
   (Bv (Cs (EF.eu (Dz (Bx Bb Bp))))
   (Bv (Cs (EF.eu (Dz (Bx Bb Bp))))
   (Bv (Cs (AkG (Bx (EF.eb (Li (Bx (EU.eb (Cz Bb (EU.eb Bq))) Bp))) (Bx (EF.eb (Li (Bx (EU.eb (Cz Bb (EU.eb Bq))) Bp))) (Bx (EF.eb (Li (Bx (EU.eb (Cz Bb (EU.eb Bq))) Bp))) Bp)))))
   (Bv (Cs (EF.eu (Dz (Bx (EF.eb (Adj Bb (Dv (EU.eb Bq)) (Dv (EU.eb Bq)) (Dv (EU.eb Bq)))) (Bx Bb Bp)))))
   (Bv (Cs (EF.eu (Dz (Bx (EF.eb (Adj Bb (Dv (EU.eb Bq)) (Dv (EU.eb Bq)) (Dv (EU.eb Bq)))) (Bx Bb Bp)))))
   (Bv (Cs (Fx (fun _ _ _=>.int _) (EU.eb (AiE (Bx Bb (Bx (EU.eb Bq) Bp)))) (EU.eb (Fx (fun _ _ _=>.int _) (EU.eb Bq) (EU.eb Bq)))))
   (Bv (Je (Fl (EU.eb (Gv (fun _ _ _=>.bl _) (EU.eb (Fx (fun _ _ _=>.int _) Bb (EU.eb Bq))) (EU.eb Bq))))
    (Cs (EF.eu (Dz (Bx Bb (Bx Bb (Bx Bb (Bx (EU.eb (Fx (fun _ _ _=>.int _) Bb (EU.eb Bq))) Bp)))))))
    Gf)
   (Bv (Cs (Tw (Bx Bb (Bx Bb (Bx Bb (Bx Bb Bp))))))
   (Bv (Qg (EF.eu (Fm 2 (Dg (Qi 2 (Dg De (Dg De Bp))) (Dg (Qi 2 (Dg De (Dg De Bp))) Bp)))) (Ch (top:=11))
    (Bv (Cs (Tw (Bx Bb (Bx (EF.eb (Li (Bx (EU.eb (Cz Bb (EU.eb Bq))) Bp))) (Bx (EF.eb (Li (Bx (EU.eb (Cz Bb (EU.eb Bq))) Bp))) Bp)))))
   (Je (AgC (Fl (EU.eb (AjM Bb (EU.eb (Acd Bb))))) (Vf (AhR (Ahv Bb)) (Fl (EU.eb (AaE Bb)))))
    (Jj Vk)
    Gf)))
   (Jj (Acd (EU.eb (Tw (Bx Bb (Bx (EF.eb (Li (Bx Bb Bp))) (Bx (EF.eb (Li (Bx Bb Bp))) Bp))))))))))))))))) (fun ps P hp=>?_)
 clear h hu hu64 hr
 obtain ⟨ns,rfl,hlen,q⟩:=hp
 simp only [Fc,List.zipWith_cons_cons,List.zipWith_nil_left,List.zipWith_nil_right,List.length_cons,List.length_nil,Nat.zero_add,Nat.reduceAdd,Nat.reduceSub,List.replicate_succ,List.replicate_zero,Bool.false_eq_true,if_false,if_true,List.cons_append,List.nil_append,Gs]
 walk_at "pr"
 refine ⟨ns,rfl,fun U M J bk=>?_⟩
 have nd:=(List.nodup_append.mp bk.nd).1
 have Ul:U.length <= 60:=by have:=bk.ln; omega
 have Jl:=bk.jl
 walk_at "pr"
 refine ⟨U,_,_,rfl,nd,by omega,?_⟩
 walk_at "pr"
 refine ⟨_,_,J,rfl,bk.jo.nw,by omega,?_⟩
 walk_at "pr"
 refine ⟨U,M,J,rfl,bk.so,bk.mo,bk.nd,bk.jo,by have:=bk.ln; omega,?_⟩
 walk_at "pr"
 refine ⟨U,M,J,pick (Nh ns.length (some 9) (some 49) (some 2)) ns,rfl,bk,Nat.le_trans (Oq _ _) (Nat.le_trans (Ut _ _ _ _) hlen),fun a la=>?_⟩
 have la':a.length <= 20:=by
  rw [la]
  have z:∀ n,n < 64->(Nh n (some 9) (some 49) (some 2)).length <= 20:=by decide +kernel
  exact Nat.le_trans (Oq _ _) (z ns.length (by omega))
 walk_at "pr"
 refine ⟨U,M,J,pick (Nh ns.length (some 10) (some 50) (some 2)) ns,rfl,bk,Nat.le_trans (Oq _ _) (Nat.le_trans (Ut _ _ _ _) hlen),fun b lb=>?_⟩
 have lb':b.length <= 20:=by
  rw [lb]
  have z:∀ n,n < 64->(Nh n (some 10) (some 50) (some 2)).length <= 20:=by decide +kernel
  exact Nat.le_trans (Oq _ _) (z ns.length (by omega))
 walk_at "pr"
 refine ⟨ns,8,rfl,by decide,fun x=>?_⟩
 walk_at "px"
 rotate_left
 ·decide
 ·exact ⟨by decide,by decide,by decide⟩
 generalize x % 10 ^ Int.toNat 12 = c
 refine AgH (fun ρ=>∃ b:List Int,ρ = [.bo (.scr ns),.sh (.tup [.lst (U.map sgP),.lst (M.map prP),.lst (J.map jnP)]),.sh (.dk (rkD U)),.sh (.dk (ptD J)),.sh (.bk U M J),.sh (lsI a),.sh (lsI b),.sh (.int c),.un,.un,.un]/\b.length <= 21) (fun ρ h=>?_) ?_
 rotate_left
 ·walk_at "pr"
  rotate_left
  ·decide
  refine Fi (fun h1=>?_) (fun h1=>?_)
  ·walk_at "pr"
   rotate_left
   ·exact ⟨by decide,by decide⟩
   refine ⟨U,M,J,a,_,rfl,by omega,by omega,by omega,fun us lu=>?_⟩
   exact .inl ⟨us,rfl,by omega⟩
  ·walk_at "pr"
   exact .inl ⟨b,rfl,by omega⟩
 clear lb lb'
 clear b
 obtain ⟨b,rfl,lb⟩:=h
 have fA:Fit U M J a:=Fit.of bk (by omega)
 have fB:Fit U M J b:=Fit.of bk (by omega)
 have nA:(lng U M J a).length <= 600:=by rw [Wc]; have:=Ju J a; omega
 have nB:(lng U M J b).length <= 600:=by rw [Wc]; have:=Ju J b; omega
 walk_at "pr"
 refine ⟨U,M,J,a,b,rfl,bk,by omega,by omega,?_⟩
 generalize hd:decide (lng U M J a = lng U M J b) = due
 walk_at "pr"
 refine ⟨fun k ρ=>∃ v9 v10,ρ = [.bo (.scr ns),.sh (.tup [.lst (U.map sgP),.lst (M.map prP),.lst (J.map jnP)]),.sh (.dk (rkD U)),.sh (.dk (ptD J)),.sh (.bk U M J),.sh (lsI a),.sh (lsI b),.sh (.int c),.sh (.bl due),v9,v10],⟨_,_,rfl⟩,?_,?_⟩
 ·rintro k p ρ hp ⟨v9,v10,rfl⟩
  obtain ⟨x,y,rfl,fx,fy,nx,lx,ly,exy⟩:∃ x y,p = .tup [lsI x,lsI y]/\Fit U M J x/\Fit U M J y/\(lng U M J x).length <= 600/\x.length <= 21/\y.length <= 21/\(lng U M J a = lng U M J b ↔ lng U M J x = lng U M J y):=by
   match k,hp with
   | 0,hp=>cases hp; exact ⟨a,b,rfl,fA,fB,nA,by omega,by omega,Iff.rfl⟩
   | 1,hp=>cases hp; exact ⟨b,a,rfl,fB,fA,nB,by omega,by omega,eq_comm⟩
   | _ + 2,hp=>simp at hp
  walk_at "pr"
  refine ⟨U,M,J,x,y,rfl,bk,by omega,by omega,fx,fy,nx,fun e ss hw=>?_,fun e=>?_⟩
  ·obtain rfl:due = true:=by rw [<- hd]; exact decide_eq_true (exy.mpr e)
   walk_at "pr"
   rw [decide_eq_true rfl]
   walk_at "pr"
   exact ⟨_,_,rfl⟩
  ·obtain rfl:due = false:=by rw [<- hd]; exact decide_eq_false (fun z=>e (exy.mp z))
   walk_at "pr"
   rw [decide_eq_true rfl]
   walk_at "pr"
   rw [show isN .non = true from rfl]
   walk_at "pr"
   exact ⟨_,_,rfl⟩
 rintro ρ ⟨v9,v10,rfl⟩
 walk_at "pr"
 refine ⟨U,M,J,a,a,rfl,bk,by omega,by omega,fA,fA,nA,fun e ss hw=>?_,fun e=>absurd rfl e⟩
 walk_at "pr"
 exact q
end
def _root_.PySem.W.Fast.tw10006659840483985224:Nat:=0
def _root_.PySem.W.Fast.tw1047560509767741439:Nat:=0
def _root_.PySem.W.Fast.tw1110576949282500919:Nat:=0
def _root_.PySem.W.Fast.tw11325469307862491376:Nat:=0
def _root_.PySem.W.Fast.tw1170801488679882114:Nat:=0
def _root_.PySem.W.Fast.tw13036996481327879470:Nat:=0
def _root_.PySem.W.Fast.tw1317191652595942254:Nat:=0
def _root_.PySem.W.Fast.tw13196042121845901240:Nat:=0
def _root_.PySem.W.Fast.tw13607107925844709124:Nat:=0
def _root_.PySem.W.Fast.tw13920628236918175166:Nat:=0
def _root_.PySem.W.Fast.tw14153463229441468083:Nat:=0
def _root_.PySem.W.Fast.tw14659365511729144264:Nat:=0
def _root_.PySem.W.Fast.tw1533228390563108746:Nat:=0
def _root_.PySem.W.Fast.tw15388419997649029905:Nat:=0
def _root_.PySem.W.Fast.tw17179107471814974347:Nat:=0
def _root_.PySem.W.Fast.tw17361812828801597166:Nat:=0
def _root_.PySem.W.Fast.tw18233884062319434580:Nat:=0
def _root_.PySem.W.Fast.tw2089554412329120795:Nat:=0
def _root_.PySem.W.Fast.tw2807975883836175315:Nat:=0
def _root_.PySem.W.Fast.tw3239365772862017043:Nat:=0
def _root_.PySem.W.Fast.tw4084389200170016736:Nat:=0
def _root_.PySem.W.Fast.tw4492184657280227874:Nat:=0
def _root_.PySem.W.Fast.tw4762924771325515146:Nat:=0
def _root_.PySem.W.Fast.tw5293762012757238126:Nat:=0
def _root_.PySem.W.Fast.tw5415856703119712090:Nat:=0
def _root_.PySem.W.Fast.tw5745356766990211471:Nat:=0
def _root_.PySem.W.Fast.tw5990601017650408274:Nat:=0
def _root_.PySem.W.Fast.tw62500762549458245:Nat:=0
def _root_.PySem.W.Fast.tw7523147449356437401:Nat:=0
def _root_.PySem.W.Fast.tw7893691508364501756:Nat:=0
def _root_.PySem.W.Fast.tw8379659005988276244:Nat:=0
def _root_.PySem.W.Fast.tw9181928954212145359:Nat:=0
def _root_.PySem.W.Fast.tw9396585555633181782:Nat:=0
def _root_.PySem.W.Fast.tw962559629757694467:Nat:=0
def _root_.PySem.W.Fast.tw9955230622689003750:Nat:=0
theorem all_mk {l:PySem.W.OpenLaw} {w:World} {K:PySem.W.Frag} {h:Heap} {mg:Str->Option Value} {fa:Addr} (X:K.In h) (G:h.Ns mainGlobals mg) (hfa:mg "law" = some (.ref fa)) {f_qj f_qbi f_qbe f_qbb f_qbc f_qbd f_qbh f_qbg f_qd f_qf f_qa f_qbq f_qbn f_qh f_qo f_qq f_qu f_qz f_qp f_qn f_qg f_qt f_qk f_qv f_qbo f_qbj f_qr f_qba f_qbf f_qw f_qbm f_qy f_qm f_ql f_qs f_qbk f_qb f_qe f_qbl f_qbp f_qc f_qbr f_qbt C_Book a_JOINED_KINDS a_TOLD_KINDS:Addr} {od_JOINED_KINDS:Option Addr} {its_JOINED_KINDS:Array Value} {n_JOINED_KINDS:Nat} {sl_JOINED_KINDS:Array (Option Value)} {u_MOST_GOINGS:Value} {od_TOLD_KINDS:Option Addr} {its_TOLD_KINDS:Array Value} {n_TOLD_KINDS:Nat} {sl_TOLD_KINDS:Array (Option Value)} {od_qj an_qj od_qbi an_qbi od_qbe an_qbe od_qbb an_qbb od_qbc an_qbc od_qbd an_qbd od_qbh an_qbh od_qbg an_qbg od_qd an_qd od_qf an_qf od_qa an_qa od_qbq an_qbq od_qbn an_qbn od_qh an_qh od_qo an_qo od_qq an_qq od_qu an_qu od_qz an_qz od_qp an_qp od_qn an_qn od_qg an_qg od_qt an_qt od_qk an_qk od_qv an_qv od_qbo an_qbo od_qbj an_qbj od_qr an_qr od_qba an_qba od_qbf an_qbf od_qw an_qw od_qbm an_qbm od_qy an_qy od_qm an_qm od_ql an_ql od_qs an_qs od_qbk an_qbk od_qb an_qb od_qe an_qe od_qbl an_qbl od_qbp an_qbp od_qc an_qc od_qbr an_qbr od_qbt an_qbt:Option Addr} {sl_qj sl_qbi sl_qbe sl_qbb sl_qbc sl_qbd sl_qbh sl_qbg sl_qd sl_qf sl_qa sl_qbq sl_qbn sl_qh sl_qo sl_qq sl_qu sl_qz sl_qp sl_qn sl_qg sl_qt sl_qk sl_qv sl_qbo sl_qbj sl_qr sl_qba sl_qbf sl_qw sl_qbm sl_qy sl_qm sl_ql sl_qs sl_qbk sl_qb sl_qe sl_qbl sl_qbp sl_qc sl_qbr sl_qbt:Array (Option Value)} {oc_qj kV_qj dc_qj pm_qj cd_qj ct_qj oc_qbi kV_qbi dc_qbi pm_qbi cd_qbi ct_qbi oc_qbe kV_qbe dc_qbe pm_qbe cd_qbe ct_qbe oc_qbb kV_qbb dc_qbb pm_qbb cd_qbb ct_qbb oc_qbc kV_qbc dc_qbc pm_qbc cd_qbc ct_qbc oc_qbd kV_qbd dc_qbd pm_qbd cd_qbd ct_qbd oc_qbh kV_qbh dc_qbh pm_qbh cd_qbh ct_qbh oc_qbg kV_qbg dc_qbg pm_qbg cd_qbg ct_qbg oc_qd kV_qd dc_qd pm_qd cd_qd ct_qd oc_qf kV_qf dc_qf pm_qf cd_qf ct_qf oc_qa kV_qa dc_qa pm_qa cd_qa ct_qa oc_qbq kV_qbq dc_qbq pm_qbq cd_qbq ct_qbq oc_qbn kV_qbn dc_qbn pm_qbn cd_qbn ct_qbn oc_qh kV_qh dc_qh pm_qh cd_qh ct_qh oc_qo kV_qo dc_qo pm_qo cd_qo ct_qo oc_qq kV_qq dc_qq pm_qq cd_qq ct_qq oc_qu kV_qu dc_qu pm_qu cd_qu ct_qu oc_qz kV_qz dc_qz pm_qz cd_qz ct_qz oc_qp kV_qp dc_qp pm_qp cd_qp ct_qp oc_qn kV_qn dc_qn pm_qn cd_qn ct_qn oc_qg kV_qg dc_qg pm_qg cd_qg ct_qg oc_qt kV_qt dc_qt pm_qt cd_qt ct_qt oc_qk kV_qk dc_qk pm_qk cd_qk ct_qk oc_qv kV_qv dc_qv pm_qv cd_qv ct_qv oc_qbo kV_qbo dc_qbo pm_qbo cd_qbo ct_qbo oc_qbj kV_qbj dc_qbj pm_qbj cd_qbj ct_qbj oc_qr kV_qr dc_qr pm_qr cd_qr ct_qr oc_qba kV_qba dc_qba pm_qba cd_qba ct_qba oc_qbf kV_qbf dc_qbf pm_qbf cd_qbf ct_qbf oc_qw kV_qw dc_qw pm_qw cd_qw ct_qw oc_qbm kV_qbm dc_qbm pm_qbm cd_qbm ct_qbm oc_qy kV_qy dc_qy pm_qy cd_qy ct_qy oc_qm kV_qm dc_qm pm_qm cd_qm ct_qm oc_ql kV_ql dc_ql pm_ql cd_ql ct_ql oc_qs kV_qs dc_qs pm_qs cd_qs ct_qs oc_qbk kV_qbk dc_qbk pm_qbk cd_qbk ct_qbk oc_qb kV_qb dc_qb pm_qb cd_qb ct_qb oc_qe kV_qe dc_qe pm_qe cd_qe ct_qe oc_qbl kV_qbl dc_qbl pm_qbl cd_qbl ct_qbl oc_qbp kV_qbp dc_qbp pm_qbp cd_qbp ct_qbp oc_qc kV_qc dc_qc pm_qc cd_qc ct_qc oc_qbr kV_qbr dc_qbr pm_qbr cd_qbr ct_qbr oc_qbt kV_qbt dc_qbt pm_qbt cd_qbt ct_qbt:Value}
  (aC_Book:PySem.W.nsIn K mainGlobals "Book" = some (some (.ref C_Book)))
  (h_qj_a:PySem.W.nsIn K mainGlobals "_law_cell_at" = some (some (.ref f_qj)))
  (h_qj_l:K.lookup f_qj = some ⟨oc_qj,od_qj,.func (PySem.W.fnOf "_law_cell_at" "_law_cell_at" (Bk Rw) (Bj Rw) (Bd Rw) .none kV_qj dc_qj pm_qj an_qj cd_qj ct_qj),sl_qj⟩)
  (h_qj_c:PySem.W.codeIn K cd_qj "_law_cell_at" = true)
  (h_qj_k:PySem.W.keepIn K (.ref f_qj) = true)
  (h_qbi_a:PySem.W.nsIn K mainGlobals "_law_signs" = some (some (.ref f_qbi)))
  (h_qbi_l:K.lookup f_qbi = some ⟨oc_qbi,od_qbi,.func (PySem.W.fnOf "_law_signs" "_law_signs" (Bk Ob) (Bj Ob) (Bd Ob) .none kV_qbi dc_qbi pm_qbi an_qbi cd_qbi ct_qbi),sl_qbi⟩)
  (h_qbi_c:PySem.W.codeIn K cd_qbi "_law_signs" = true)
  (h_qbi_k:PySem.W.keepIn K (.ref f_qbi) = true)
  (h_qbe_a:PySem.W.nsIn K mainGlobals "_law_marks" = some (some (.ref f_qbe)))
  (h_qbe_l:K.lookup f_qbe = some ⟨oc_qbe,od_qbe,.func (PySem.W.fnOf "_law_marks" "_law_marks" (Bk Nm) (Bj Nm) (Bd Nm) .none kV_qbe dc_qbe pm_qbe an_qbe cd_qbe ct_qbe),sl_qbe⟩)
  (h_qbe_c:PySem.W.codeIn K cd_qbe "_law_marks" = true)
  (h_qbe_k:PySem.W.keepIn K (.ref f_qbe) = true)
  (h_qbb_a:PySem.W.nsIn K mainGlobals "_law_bases" = some (some (.ref f_qbb)))
  (h_qbb_l:K.lookup f_qbb = some ⟨oc_qbb,od_qbb,.func (PySem.W.fnOf "_law_bases" "_law_bases" (Bk Nj) (Bj Nj) (Bd Nj) .none kV_qbb dc_qbb pm_qbb an_qbb cd_qbb ct_qbb),sl_qbb⟩)
  (h_qbb_c:PySem.W.codeIn K cd_qbb "_law_bases" = true)
  (h_qbb_k:PySem.W.keepIn K (.ref f_qbb) = true)
  (h_qbc_a:PySem.W.nsIn K mainGlobals "_law_joins" = some (some (.ref f_qbc)))
  (h_qbc_l:K.lookup f_qbc = some ⟨oc_qbc,od_qbc,.func (PySem.W.fnOf "_law_joins" "_law_joins" (Bk Nv) (Bj Nv) (Bd Nv) .none kV_qbc dc_qbc pm_qbc an_qbc cd_qbc ct_qbc),sl_qbc⟩)
  (h_qbc_c:PySem.W.codeIn K cd_qbc "_law_joins" = true)
  (h_qbc_k:PySem.W.keepIn K (.ref f_qbc) = true)
  (h_qbd_a:PySem.W.nsIn K mainGlobals "_law_lists" = some (some (.ref f_qbd)))
  (h_qbd_l:K.lookup f_qbd = some ⟨oc_qbd,od_qbd,.func (PySem.W.fnOf "_law_lists" "_law_lists" (Bk Oe) (Bj Oe) (Bd Oe) .none kV_qbd dc_qbd pm_qbd an_qbd cd_qbd ct_qbd),sl_qbd⟩)
  (h_qbd_c:PySem.W.codeIn K cd_qbd "_law_lists" = true)
  (h_qbd_k:PySem.W.keepIn K (.ref f_qbd) = true)
  (h_qbh_a:PySem.W.nsIn K mainGlobals "_law_ranks" = some (some (.ref f_qbh)))
  (h_qbh_l:K.lookup f_qbh = some ⟨oc_qbh,od_qbh,.func (PySem.W.fnOf "_law_ranks" "_law_ranks" (Bk Nx) (Bj Nx) (Bd Nx) .none kV_qbh dc_qbh pm_qbh an_qbh cd_qbh ct_qbh),sl_qbh⟩)
  (h_qbh_c:PySem.W.codeIn K cd_qbh "_law_ranks" = true)
  (h_qbh_k:PySem.W.keepIn K (.ref f_qbh) = true)
  (h_qbg_a:PySem.W.nsIn K mainGlobals "_law_parts" = some (some (.ref f_qbg)))
  (h_qbg_l:K.lookup f_qbg = some ⟨oc_qbg,od_qbg,.func (PySem.W.fnOf "_law_parts" "_law_parts" (Bk Ni) (Bj Ni) (Bd Ni) .none kV_qbg dc_qbg pm_qbg an_qbg cd_qbg ct_qbg),sl_qbg⟩)
  (h_qbg_c:PySem.W.codeIn K cd_qbg "_law_parts" = true)
  (h_qbg_k:PySem.W.keepIn K (.ref f_qbg) = true)
  (h_qd_a:PySem.W.nsIn K mainGlobals "refuse_unless" = some (some (.ref f_qd)))
  (h_qd_l:K.lookup f_qd = some ⟨oc_qd,od_qd,.func (PySem.W.fnOf "refuse_unless" "refuse_unless" (Bk Rk) (Bj Rk) (Bd Rk) .none kV_qd dc_qd pm_qd an_qd cd_qd ct_qd),sl_qd⟩)
  (h_qd_c:PySem.W.codeIn K cd_qd "refuse_unless" = true)
  (h_qd_k:PySem.W.keepIn K (.ref f_qd) = true)
  (h_qf_a:PySem.W.nsIn K mainGlobals "check_tuples" = some (some (.ref f_qf)))
  (h_qf_l:K.lookup f_qf = some ⟨oc_qf,od_qf,.func (PySem.W.fnOf "check_tuples" "check_tuples" (Bk Ry) (Bj Ry) (Bd Ry) .none kV_qf dc_qf pm_qf an_qf cd_qf ct_qf),sl_qf⟩)
  (h_qf_c:PySem.W.codeIn K cd_qf "check_tuples" = true)
  (h_qf_k:PySem.W.keepIn K (.ref f_qf) = true)
  (h_qa_a:PySem.W.nsIn K mainGlobals "is_whole_number" = some (some (.ref f_qa)))
  (h_qa_l:K.lookup f_qa = some ⟨oc_qa,od_qa,.func (PySem.W.fnOf "is_whole_number" "is_whole_number" (Bk Rx) (Bj Rx) (Bd Rx) .none kV_qa dc_qa pm_qa an_qa cd_qa ct_qa),sl_qa⟩)
  (h_qa_c:PySem.W.codeIn K cd_qa "is_whole_number" = true)
  (h_qa_k:PySem.W.keepIn K (.ref f_qa) = true)
  (h_qbq_a:PySem.W.nsIn K mainGlobals "is_sign" = some (some (.ref f_qbq)))
  (h_qbq_l:K.lookup f_qbq = some ⟨oc_qbq,od_qbq,.func (PySem.W.fnOf "is_sign" "is_sign" (Bk Nk) (Bj Nk) (Bd Nk) .none kV_qbq dc_qbq pm_qbq an_qbq cd_qbq ct_qbq),sl_qbq⟩)
  (h_qbq_c:PySem.W.codeIn K cd_qbq "is_sign" = true)
  (h_qbq_k:PySem.W.keepIn K (.ref f_qbq) = true)
  (h_qbn_a:PySem.W.nsIn K mainGlobals "add_kind" = some (some (.ref f_qbn)))
  (h_qbn_l:K.lookup f_qbn = some ⟨oc_qbn,od_qbn,.func (PySem.W.fnOf "add_kind" "add_kind" (Bk Nr) (Bj Nr) (Bd Nr) .none kV_qbn dc_qbn pm_qbn an_qbn cd_qbn ct_qbn),sl_qbn⟩)
  (h_qbn_c:PySem.W.codeIn K cd_qbn "add_kind" = true)
  (h_qbn_k:PySem.W.keepIn K (.ref f_qbn) = true)
  (h_qh_a:PySem.W.nsIn K mainGlobals "is_told_kind" = some (some (.ref f_qh)))
  (h_qh_l:K.lookup f_qh = some ⟨oc_qh,od_qh,.func (PySem.W.fnOf "is_told_kind" "is_told_kind" (Bk Ra) (Bj Ra) (Bd Ra) .none kV_qh dc_qh pm_qh an_qh cd_qh ct_qh),sl_qh⟩)
  (h_qh_c:PySem.W.codeIn K cd_qh "is_told_kind" = true)
  (h_qh_k:PySem.W.keepIn K (.ref f_qh) = true)
  (h_qo_a:PySem.W.nsIn K mainGlobals "is_rank_of" = some (some (.ref f_qo)))
  (h_qo_l:K.lookup f_qo = some ⟨oc_qo,od_qo,.func (PySem.W.fnOf "is_rank_of" "is_rank_of" (Bk Sf) (Bj Sf) (Bd Sf) .none kV_qo dc_qo pm_qo an_qo cd_qo ct_qo),sl_qo⟩)
  (h_qo_c:PySem.W.codeIn K cd_qo "is_rank_of" = true)
  (h_qo_k:PySem.W.keepIn K (.ref f_qo) = true)
  (h_qq_a:PySem.W.nsIn K mainGlobals "kinds_told" = some (some (.ref f_qq)))
  (h_qq_l:K.lookup f_qq = some ⟨oc_qq,od_qq,.func (PySem.W.fnOf "kinds_told" "kinds_told" (Bk Qt) (Bj Qt) (Bd Qt) .none kV_qq dc_qq pm_qq an_qq cd_qq ct_qq),sl_qq⟩)
  (h_qq_c:PySem.W.codeIn K cd_qq "kinds_told" = true)
  (h_qq_k:PySem.W.keepIn K (.ref f_qq) = true)
  (h_qu_a:PySem.W.nsIn K mainGlobals "ranks_told" = some (some (.ref f_qu)))
  (h_qu_l:K.lookup f_qu = some ⟨oc_qu,od_qu,.func (PySem.W.fnOf "ranks_told" "ranks_told" (Bk Qu) (Bj Qu) (Bd Qu) .none kV_qu dc_qu pm_qu an_qu cd_qu ct_qu),sl_qu⟩)
  (h_qu_c:PySem.W.codeIn K cd_qu "ranks_told" = true)
  (h_qu_k:PySem.W.keepIn K (.ref f_qu) = true)
  (h_qz_a:PySem.W.nsIn K mainGlobals "both_ways" = some (some (.ref f_qz)))
  (h_qz_l:K.lookup f_qz = some ⟨oc_qz,od_qz,.func (PySem.W.fnOf "both_ways" "both_ways" (Bk Qs) (Bj Qs) (Bd Qs) .none kV_qz dc_qz pm_qz an_qz cd_qz ct_qz),sl_qz⟩)
  (h_qz_c:PySem.W.codeIn K cd_qz "both_ways" = true)
  (h_qz_k:PySem.W.keepIn K (.ref f_qz) = true)
  (h_qp_a:PySem.W.nsIn K mainGlobals "kind_among" = some (some (.ref f_qp)))
  (h_qp_l:K.lookup f_qp = some ⟨oc_qp,od_qp,.func (PySem.W.fnOf "kind_among" "kind_among" (Bk Sa) (Bj Sa) (Bd Sa) .none kV_qp dc_qp pm_qp an_qp cd_qp ct_qp),sl_qp⟩)
  (h_qp_c:PySem.W.codeIn K cd_qp "kind_among" = true)
  (h_qp_k:PySem.W.keepIn K (.ref f_qp) = true)
  (h_qn_a:PySem.W.nsIn K mainGlobals "check_join" = some (some (.ref f_qn)))
  (h_qn_l:K.lookup f_qn = some ⟨oc_qn,od_qn,.func (PySem.W.fnOf "check_join" "check_join" (Bk Rr) (Bj Rr) (Bd Rr) .none kV_qn dc_qn pm_qn an_qn cd_qn ct_qn),sl_qn⟩)
  (h_qn_c:PySem.W.codeIn K cd_qn "check_join" = true)
  (h_qn_k:PySem.W.keepIn K (.ref f_qn) = true)
  (h_qg_a:PySem.W.nsIn K mainGlobals "ends_in_time" = some (some (.ref f_qg)))
  (h_qg_l:K.lookup f_qg = some ⟨oc_qg,od_qg,.func (PySem.W.fnOf "ends_in_time" "ends_in_time" (Bk Rv) (Bj Rv) (Bd Rv) .none kV_qg dc_qg pm_qg an_qg cd_qg ct_qg),sl_qg⟩)
  (h_qg_c:PySem.W.codeIn K cd_qg "ends_in_time" = true)
  (h_qg_k:PySem.W.keepIn K (.ref f_qg) = true)
  (h_qt_a:PySem.W.nsIn K mainGlobals "pairs_told" = some (some (.ref f_qt)))
  (h_qt_l:K.lookup f_qt = some ⟨oc_qt,od_qt,.func (PySem.W.fnOf "pairs_told" "pairs_told" (Bk Qv) (Bj Qv) (Bd Qv) .none kV_qt dc_qt pm_qt an_qt cd_qt ct_qt),sl_qt⟩)
  (h_qt_c:PySem.W.codeIn K cd_qt "pairs_told" = true)
  (h_qt_k:PySem.W.keepIn K (.ref f_qt) = true)
  (h_qk_a:PySem.W.nsIn K mainGlobals "wholes_told" = some (some (.ref f_qk)))
  (h_qk_l:K.lookup f_qk = some ⟨oc_qk,od_qk,.func (PySem.W.fnOf "wholes_told" "wholes_told" (Bk Sb) (Bj Sb) (Bd Sb) .none kV_qk dc_qk pm_qk an_qk cd_qk ct_qk),sl_qk⟩)
  (h_qk_c:PySem.W.codeIn K cd_qk "wholes_told" = true)
  (h_qk_k:PySem.W.keepIn K (.ref f_qk) = true)
  (h_qv_a:PySem.W.findIn K (.ref C_Book) "__init__" = some (some (.ref f_qv)))
  (h_qv_i:PySem.W.isFn K (.ref f_qv) = true)
  (h_qv_l:K.lookup f_qv = some ⟨oc_qv,od_qv,.func (PySem.W.fnOf "__init__" "Book.__init__" (Bk Qx) (Bj Qx) (Bd Qx) .none kV_qv dc_qv pm_qv an_qv cd_qv ct_qv),sl_qv⟩)
  (h_qv_c:PySem.W.codeIn K cd_qv "Book.__init__" = true)
  (h_qv_k:PySem.W.keepIn K (.ref f_qv) = true)
  (h_qbo_a:PySem.W.nsIn K mainGlobals "_law_text" = some (some (.ref f_qbo)))
  (h_qbo_l:K.lookup f_qbo = some ⟨oc_qbo,od_qbo,.func (PySem.W.fnOf "_law_text" "_law_text" (Bk No) (Bj No) (Bd No) .none kV_qbo dc_qbo pm_qbo an_qbo cd_qbo ct_qbo),sl_qbo⟩)
  (h_qbo_c:PySem.W.codeIn K cd_qbo "_law_text" = true)
  (h_qbo_k:PySem.W.keepIn K (.ref f_qbo) = true)
  (h_qbj_a:PySem.W.nsIn K mainGlobals "_law_split" = some (some (.ref f_qbj)))
  (h_qbj_l:K.lookup f_qbj = some ⟨oc_qbj,od_qbj,.func (PySem.W.fnOf "_law_split" "_law_split" (Bk Od) (Bj Od) (Bd Od) .none kV_qbj dc_qbj pm_qbj an_qbj cd_qbj ct_qbj),sl_qbj⟩)
  (h_qbj_c:PySem.W.codeIn K cd_qbj "_law_split" = true)
  (h_qbj_k:PySem.W.keepIn K (.ref f_qbj) = true)
  (h_qr_a:PySem.W.nsIn K mainGlobals "_law_opened" = some (some (.ref f_qr)))
  (h_qr_l:K.lookup f_qr = some ⟨oc_qr,od_qr,.func (PySem.W.fnOf "_law_opened" "_law_opened" (Bk Ro) (Bj Ro) (Bd Ro) .none kV_qr dc_qr pm_qr an_qr cd_qr ct_qr),sl_qr⟩)
  (h_qr_c:PySem.W.codeIn K cd_qr "_law_opened" = true)
  (h_qr_k:PySem.W.keepIn K (.ref f_qr) = true)
  (h_qba_a:PySem.W.nsIn K mainGlobals "_law_alike" = some (some (.ref f_qba)))
  (h_qba_l:K.lookup f_qba = some ⟨oc_qba,od_qba,.func (PySem.W.fnOf "_law_alike" "_law_alike" (Bk Oa) (Bj Oa) (Bd Oa) .none kV_qba dc_qba pm_qba an_qba cd_qba ct_qba),sl_qba⟩)
  (h_qba_c:PySem.W.codeIn K cd_qba "_law_alike" = true)
  (h_qba_k:PySem.W.keepIn K (.ref f_qba) = true)
  (h_qbf_a:PySem.W.nsIn K mainGlobals "_law_other" = some (some (.ref f_qbf)))
  (h_qbf_l:K.lookup f_qbf = some ⟨oc_qbf,od_qbf,.func (PySem.W.fnOf "_law_other" "_law_other" (Bk Nt) (Bj Nt) (Bd Nt) .none kV_qbf dc_qbf pm_qbf an_qbf cd_qbf ct_qbf),sl_qbf⟩)
  (h_qbf_c:PySem.W.codeIn K cd_qbf "_law_other" = true)
  (h_qbf_k:PySem.W.keepIn K (.ref f_qbf) = true)
  (h_qw_a:PySem.W.findIn K (.ref C_Book) "kind" = some (some (.ref f_qw)))
  (h_qw_i:PySem.W.isFn K (.ref f_qw) = true)
  (h_qw_l:K.lookup f_qw = some ⟨oc_qw,od_qw,.func (PySem.W.fnOf "kind" "Book.kind" (Bk Si) (Bj Si) (Bd Si) .none kV_qw dc_qw pm_qw an_qw cd_qw ct_qw),sl_qw⟩)
  (h_qw_c:PySem.W.codeIn K cd_qw "Book.kind" = true)
  (h_qw_k:PySem.W.keepIn K (.ref f_qw) = true)
  (h_qbm_a:PySem.W.nsIn K mainGlobals "wholes_of" = some (some (.ref f_qbm)))
  (h_qbm_l:K.lookup f_qbm = some ⟨oc_qbm,od_qbm,.func (PySem.W.fnOf "wholes_of" "wholes_of" (Bk Nz) (Bj Nz) (Bd Nz) .none kV_qbm dc_qbm pm_qbm an_qbm cd_qbm ct_qbm),sl_qbm⟩)
  (h_qbm_c:PySem.W.codeIn K cd_qbm "wholes_of" = true)
  (h_qbm_k:PySem.W.keepIn K (.ref f_qbm) = true)
  (h_qy_a:PySem.W.findIn K (.ref C_Book) "rank" = some (some (.ref f_qy)))
  (h_qy_i:PySem.W.isFn K (.ref f_qy) = true)
  (h_qy_l:K.lookup f_qy = some ⟨oc_qy,od_qy,.func (PySem.W.fnOf "rank" "Book.rank" (Bk Qw) (Bj Qw) (Bd Qw) .none kV_qy dc_qy pm_qy an_qy cd_qy ct_qy),sl_qy⟩)
  (h_qy_c:PySem.W.codeIn K cd_qy "Book.rank" = true)
  (h_qy_k:PySem.W.keepIn K (.ref f_qy) = true)
  (h_qy_g:PySem.W.specialIn K (.ref f_qy) "__get__" = some (some (.builtin "function.__get__")))
  (h_qy_t:PySem.W.takesIn K (.ref f_qy) = some false)
  (h_qm_a:PySem.W.findIn K (.ref C_Book) "parts" = some (some (.ref f_qm)))
  (h_qm_i:PySem.W.isFn K (.ref f_qm) = true)
  (h_qm_l:K.lookup f_qm = some ⟨oc_qm,od_qm,.func (PySem.W.fnOf "parts" "Book.parts" (Bk Sj) (Bj Sj) (Bd Sj) .none kV_qm dc_qm pm_qm an_qm cd_qm ct_qm),sl_qm⟩)
  (h_qm_c:PySem.W.codeIn K cd_qm "Book.parts" = true)
  (h_qm_k:PySem.W.keepIn K (.ref f_qm) = true)
  (h_ql_a:PySem.W.nsIn K mainGlobals "written_out" = some (some (.ref f_ql)))
  (h_ql_l:K.lookup f_ql = some ⟨oc_ql,od_ql,.func (PySem.W.fnOf "written_out" "written_out" (Bk Ru) (Bj Ru) (Bd Ru) .none kV_ql dc_ql pm_ql an_ql cd_ql ct_ql),sl_ql⟩)
  (h_ql_c:PySem.W.codeIn K cd_ql "written_out" = true)
  (h_ql_k:PySem.W.keepIn K (.ref f_ql) = true)
  (h_qs_a:PySem.W.nsIn K mainGlobals "long_whole" = some (some (.ref f_qs)))
  (h_qs_l:K.lookup f_qs = some ⟨oc_qs,od_qs,.func (PySem.W.fnOf "long_whole" "long_whole" (Bk Qy) (Bj Qy) (Bd Qy) .none kV_qs dc_qs pm_qs an_qs cd_qs ct_qs),sl_qs⟩)
  (h_qs_c:PySem.W.codeIn K cd_qs "long_whole" = true)
  (h_qs_k:PySem.W.keepIn K (.ref f_qs) = true)
  (h_qbk_a:PySem.W.nsIn K mainGlobals "long_form" = some (some (.ref f_qbk)))
  (h_qbk_l:K.lookup f_qbk = some ⟨oc_qbk,od_qbk,.func (PySem.W.fnOf "long_form" "long_form" (Bk Nl) (Bj Nl) (Bd Nl) .none kV_qbk dc_qbk pm_qbk an_qbk cd_qbk ct_qbk),sl_qbk⟩)
  (h_qbk_c:PySem.W.codeIn K cd_qbk "long_form" = true)
  (h_qbk_k:PySem.W.keepIn K (.ref f_qbk) = true)
  (h_qb_a:PySem.W.nsIn K mainGlobals "turns_to_sorted" = some (some (.ref f_qb)))
  (h_qb_l:K.lookup f_qb = some ⟨oc_qb,od_qb,.func (PySem.W.fnOf "turns_to_sorted" "turns_to_sorted" (Bk Se) (Bj Se) (Bd Se) .none kV_qb dc_qb pm_qb an_qb cd_qb ct_qb),sl_qb⟩)
  (h_qb_c:PySem.W.codeIn K cd_qb "turns_to_sorted" = true)
  (h_qb_k:PySem.W.keepIn K (.ref f_qb) = true)
  (h_qe_a:PySem.W.nsIn K mainGlobals "whole_to_long" = some (some (.ref f_qe)))
  (h_qe_l:K.lookup f_qe = some ⟨oc_qe,od_qe,.func (PySem.W.fnOf "whole_to_long" "whole_to_long" (Bk Rt) (Bj Rt) (Bd Rt) .none kV_qe dc_qe pm_qe an_qe cd_qe ct_qe),sl_qe⟩)
  (h_qe_c:PySem.W.codeIn K cd_qe "whole_to_long" = true)
  (h_qe_k:PySem.W.keepIn K (.ref f_qe) = true)
  (h_qbl_a:PySem.W.nsIn K mainGlobals "step_back" = some (some (.ref f_qbl)))
  (h_qbl_l:K.lookup f_qbl = some ⟨oc_qbl,od_qbl,.func (PySem.W.fnOf "step_back" "step_back" (Bk Nn) (Bj Nn) (Bd Nn) .none kV_qbl dc_qbl pm_qbl an_qbl cd_qbl ct_qbl),sl_qbl⟩)
  (h_qbl_c:PySem.W.codeIn K cd_qbl "step_back" = true)
  (h_qbl_k:PySem.W.keepIn K (.ref f_qbl) = true)
  (h_qbp_a:PySem.W.nsIn K mainGlobals "way_back" = some (some (.ref f_qbp)))
  (h_qbp_l:K.lookup f_qbp = some ⟨oc_qbp,od_qbp,.func (PySem.W.fnOf "way_back" "way_back" (Bk Nu) (Bj Nu) (Bd Nu) .none kV_qbp dc_qbp pm_qbp an_qbp cd_qbp ct_qbp),sl_qbp⟩)
  (h_qbp_c:PySem.W.codeIn K cd_qbp "way_back" = true)
  (h_qbp_k:PySem.W.keepIn K (.ref f_qbp) = true)
  (h_qc_a:PySem.W.nsIn K mainGlobals "whole_to_whole" = some (some (.ref f_qc)))
  (h_qc_l:K.lookup f_qc = some ⟨oc_qc,od_qc,.func (PySem.W.fnOf "whole_to_whole" "whole_to_whole" (Bk Re) (Bj Re) (Bd Re) .none kV_qc dc_qc pm_qc an_qc cd_qc ct_qc),sl_qc⟩)
  (h_qc_c:PySem.W.codeIn K cd_qc "whole_to_whole" = true)
  (h_qc_k:PySem.W.keepIn K (.ref f_qc) = true)
  (h_qbr_a:PySem.W.nsIn K mainGlobals "way_to" = some (some (.ref f_qbr)))
  (h_qbr_l:K.lookup f_qbr = some ⟨oc_qbr,od_qbr,.func (PySem.W.fnOf "way_to" "way_to" (Bk Og) (Bj Og) (Bd Og) .none kV_qbr dc_qbr pm_qbr an_qbr cd_qbr ct_qbr),sl_qbr⟩)
  (h_qbr_c:PySem.W.codeIn K cd_qbr "way_to" = true)
  (h_qbr_k:PySem.W.keepIn K (.ref f_qbr) = true)
  (h_qbt_a:PySem.W.nsIn K mainGlobals "law" = some (some (.ref f_qbt)))
  (h_qbt_l:K.lookup f_qbt = some ⟨oc_qbt,od_qbt,.func (PySem.W.fnOf "law" "law" (Bk Jo) (Bj Jo) (Bd Jo) .none kV_qbt dc_qbt pm_qbt an_qbt cd_qbt ct_qbt),sl_qbt⟩)
  (h_qbt_c:PySem.W.codeIn K cd_qbt "law" = true)
  (h_qbt_k:PySem.W.keepIn K (.ref f_qbt) = true)
  (pg_Book:PySem.W.plainGet K C_Book Str.empty = true)
  (hd_Book:PySem.W.hasDictIn K C_Book = true)
  (po_Book:PySem.W.plainOver K C_Book = true)
  (sa_Book:PySem.W.findIn K (.ref C_Book) "__setattr__" = some (some (.builtin "object.__setattr__")))
  (mk_Book:PySem.W.makesIn K C_Book = true)
  (kc_Book:PySem.W.keepIn K (.ref C_Book) = true)
  (n_Book_kinds:PySem.W.findIn K (.ref C_Book) "kinds" = some none)
  (n_Book_ranks:PySem.W.findIn K (.ref C_Book) "ranks" = some none)
  (n_Book_mates:PySem.W.findIn K (.ref C_Book) "mates" = some none)
  (n_Book_pairs:PySem.W.findIn K (.ref C_Book) "pairs" = some none)
  (n_Book_wholes:PySem.W.findIn K (.ref C_Book) "wholes" = some none)
  (z_bool:PySem.W.nsIn K mainGlobals "bool" = some none)
  (z_enumerate:PySem.W.nsIn K mainGlobals "enumerate" = some none)
  (z_int:PySem.W.nsIn K mainGlobals "int" = some none)
  (z_isinstance:PySem.W.nsIn K mainGlobals "isinstance" = some none)
  (z_len:PySem.W.nsIn K mainGlobals "len" = some none)
  (z_list:PySem.W.nsIn K mainGlobals "list" = some none)
  (z_range:PySem.W.nsIn K mainGlobals "range" = some none)
  (z_reversed:PySem.W.nsIn K mainGlobals "reversed" = some none)
  (z_sorted:PySem.W.nsIn K mainGlobals "sorted" = some none)
  (z_str:PySem.W.nsIn K mainGlobals "str" = some none)
  (z_tuple:PySem.W.nsIn K mainGlobals "tuple" = some none)
  (z_zip:PySem.W.nsIn K mainGlobals "zip" = some none)
  (g_JOINED_KINDS:PySem.W.nsIn K mainGlobals "JOINED_KINDS" = some (some (.ref a_JOINED_KINDS)))
  (l_JOINED_KINDS:K.lookup a_JOINED_KINDS = some ⟨.type "tuple",od_JOINED_KINDS,.seq its_JOINED_KINDS n_JOINED_KINDS,sl_JOINED_KINDS⟩)
  (s_JOINED_KINDS:its_JOINED_KINDS.size <= sizeLine)
  (v_JOINED_KINDS:Vals [.str "fore",.str "back",.str "num",.str "blank",.str "plain"] its_JOINED_KINDS.toList)
  (g_MOST_GOINGS:PySem.W.nsIn K mainGlobals "MOST_GOINGS" = some (some u_MOST_GOINGS))
  (r_MOST_GOINGS:RelV (.int 7) u_MOST_GOINGS)
  (g_TOLD_KINDS:PySem.W.nsIn K mainGlobals "TOLD_KINDS" = some (some (.ref a_TOLD_KINDS)))
  (l_TOLD_KINDS:K.lookup a_TOLD_KINDS = some ⟨.type "tuple",od_TOLD_KINDS,.seq its_TOLD_KINDS n_TOLD_KINDS,sl_TOLD_KINDS⟩)
  (s_TOLD_KINDS:its_TOLD_KINDS.size <= sizeLine)
  (v_TOLD_KINDS:Vals [.str "fore",.str "back",.str "num",.str "blank",.str "mark",.str "forein",.str "backin",.str "out"] its_TOLD_KINDS.toList)
  : ∃ fd:FuncData,(∀ (s:Shared) (v:Value),BindsTo s fd ⟨[v],[]⟩ [("_law_script",v)])/\∀ base:Heap,K.In base->base.Ns mainGlobals mg->FnOk l.prog w K mg base CX0 7 fa fd ["_law_script"] (Vq K):=by
 have e:=hfa.symm.trans (PySem.W.mg_of X G h_qbt_a)
 cases e
 have T:Txt K mg ⟨f_qj,PySem.W.fnOf "_law_cell_at" "_law_cell_at" (Bk Rw) (Bj Rw) (Bd Rw) .none kV_qj dc_qj pm_qj an_qj cd_qj ct_qj,f_qbi,PySem.W.fnOf "_law_signs" "_law_signs" (Bk Ob) (Bj Ob) (Bd Ob) .none kV_qbi dc_qbi pm_qbi an_qbi cd_qbi ct_qbi,f_qbe,PySem.W.fnOf "_law_marks" "_law_marks" (Bk Nm) (Bj Nm) (Bd Nm) .none kV_qbe dc_qbe pm_qbe an_qbe cd_qbe ct_qbe,f_qbb,PySem.W.fnOf "_law_bases" "_law_bases" (Bk Nj) (Bj Nj) (Bd Nj) .none kV_qbb dc_qbb pm_qbb an_qbb cd_qbb ct_qbb,f_qbc,PySem.W.fnOf "_law_joins" "_law_joins" (Bk Nv) (Bj Nv) (Bd Nv) .none kV_qbc dc_qbc pm_qbc an_qbc cd_qbc ct_qbc,f_qbd,PySem.W.fnOf "_law_lists" "_law_lists" (Bk Oe) (Bj Oe) (Bd Oe) .none kV_qbd dc_qbd pm_qbd an_qbd cd_qbd ct_qbd,f_qbh,PySem.W.fnOf "_law_ranks" "_law_ranks" (Bk Nx) (Bj Nx) (Bd Nx) .none kV_qbh dc_qbh pm_qbh an_qbh cd_qbh ct_qbh,f_qbg,PySem.W.fnOf "_law_parts" "_law_parts" (Bk Ni) (Bj Ni) (Bd Ni) .none kV_qbg dc_qbg pm_qbg an_qbg cd_qbg ct_qbg,f_qd,PySem.W.fnOf "refuse_unless" "refuse_unless" (Bk Rk) (Bj Rk) (Bd Rk) .none kV_qd dc_qd pm_qd an_qd cd_qd ct_qd,f_qf,PySem.W.fnOf "check_tuples" "check_tuples" (Bk Ry) (Bj Ry) (Bd Ry) .none kV_qf dc_qf pm_qf an_qf cd_qf ct_qf,f_qa,PySem.W.fnOf "is_whole_number" "is_whole_number" (Bk Rx) (Bj Rx) (Bd Rx) .none kV_qa dc_qa pm_qa an_qa cd_qa ct_qa,f_qbq,PySem.W.fnOf "is_sign" "is_sign" (Bk Nk) (Bj Nk) (Bd Nk) .none kV_qbq dc_qbq pm_qbq an_qbq cd_qbq ct_qbq,f_qbn,PySem.W.fnOf "add_kind" "add_kind" (Bk Nr) (Bj Nr) (Bd Nr) .none kV_qbn dc_qbn pm_qbn an_qbn cd_qbn ct_qbn,f_qh,PySem.W.fnOf "is_told_kind" "is_told_kind" (Bk Ra) (Bj Ra) (Bd Ra) .none kV_qh dc_qh pm_qh an_qh cd_qh ct_qh,f_qo,PySem.W.fnOf "is_rank_of" "is_rank_of" (Bk Sf) (Bj Sf) (Bd Sf) .none kV_qo dc_qo pm_qo an_qo cd_qo ct_qo,f_qq,PySem.W.fnOf "kinds_told" "kinds_told" (Bk Qt) (Bj Qt) (Bd Qt) .none kV_qq dc_qq pm_qq an_qq cd_qq ct_qq,f_qu,PySem.W.fnOf "ranks_told" "ranks_told" (Bk Qu) (Bj Qu) (Bd Qu) .none kV_qu dc_qu pm_qu an_qu cd_qu ct_qu,f_qz,PySem.W.fnOf "both_ways" "both_ways" (Bk Qs) (Bj Qs) (Bd Qs) .none kV_qz dc_qz pm_qz an_qz cd_qz ct_qz,f_qp,PySem.W.fnOf "kind_among" "kind_among" (Bk Sa) (Bj Sa) (Bd Sa) .none kV_qp dc_qp pm_qp an_qp cd_qp ct_qp,f_qn,PySem.W.fnOf "check_join" "check_join" (Bk Rr) (Bj Rr) (Bd Rr) .none kV_qn dc_qn pm_qn an_qn cd_qn ct_qn,f_qg,PySem.W.fnOf "ends_in_time" "ends_in_time" (Bk Rv) (Bj Rv) (Bd Rv) .none kV_qg dc_qg pm_qg an_qg cd_qg ct_qg,f_qt,PySem.W.fnOf "pairs_told" "pairs_told" (Bk Qv) (Bj Qv) (Bd Qv) .none kV_qt dc_qt pm_qt an_qt cd_qt ct_qt,f_qk,PySem.W.fnOf "wholes_told" "wholes_told" (Bk Sb) (Bj Sb) (Bd Sb) .none kV_qk dc_qk pm_qk an_qk cd_qk ct_qk,f_qv,PySem.W.fnOf "__init__" "Book.__init__" (Bk Qx) (Bj Qx) (Bd Qx) .none kV_qv dc_qv pm_qv an_qv cd_qv ct_qv,f_qbo,PySem.W.fnOf "_law_text" "_law_text" (Bk No) (Bj No) (Bd No) .none kV_qbo dc_qbo pm_qbo an_qbo cd_qbo ct_qbo,f_qbj,PySem.W.fnOf "_law_split" "_law_split" (Bk Od) (Bj Od) (Bd Od) .none kV_qbj dc_qbj pm_qbj an_qbj cd_qbj ct_qbj,f_qr,PySem.W.fnOf "_law_opened" "_law_opened" (Bk Ro) (Bj Ro) (Bd Ro) .none kV_qr dc_qr pm_qr an_qr cd_qr ct_qr,f_qba,PySem.W.fnOf "_law_alike" "_law_alike" (Bk Oa) (Bj Oa) (Bd Oa) .none kV_qba dc_qba pm_qba an_qba cd_qba ct_qba,f_qbf,PySem.W.fnOf "_law_other" "_law_other" (Bk Nt) (Bj Nt) (Bd Nt) .none kV_qbf dc_qbf pm_qbf an_qbf cd_qbf ct_qbf,f_qw,PySem.W.fnOf "kind" "Book.kind" (Bk Si) (Bj Si) (Bd Si) .none kV_qw dc_qw pm_qw an_qw cd_qw ct_qw,f_qbm,PySem.W.fnOf "wholes_of" "wholes_of" (Bk Nz) (Bj Nz) (Bd Nz) .none kV_qbm dc_qbm pm_qbm an_qbm cd_qbm ct_qbm,f_qy,PySem.W.fnOf "rank" "Book.rank" (Bk Qw) (Bj Qw) (Bd Qw) .none kV_qy dc_qy pm_qy an_qy cd_qy ct_qy,f_qm,PySem.W.fnOf "parts" "Book.parts" (Bk Sj) (Bj Sj) (Bd Sj) .none kV_qm dc_qm pm_qm an_qm cd_qm ct_qm,f_ql,PySem.W.fnOf "written_out" "written_out" (Bk Ru) (Bj Ru) (Bd Ru) .none kV_ql dc_ql pm_ql an_ql cd_ql ct_ql,f_qs,PySem.W.fnOf "long_whole" "long_whole" (Bk Qy) (Bj Qy) (Bd Qy) .none kV_qs dc_qs pm_qs an_qs cd_qs ct_qs,f_qbk,PySem.W.fnOf "long_form" "long_form" (Bk Nl) (Bj Nl) (Bd Nl) .none kV_qbk dc_qbk pm_qbk an_qbk cd_qbk ct_qbk,f_qb,PySem.W.fnOf "turns_to_sorted" "turns_to_sorted" (Bk Se) (Bj Se) (Bd Se) .none kV_qb dc_qb pm_qb an_qb cd_qb ct_qb,f_qe,PySem.W.fnOf "whole_to_long" "whole_to_long" (Bk Rt) (Bj Rt) (Bd Rt) .none kV_qe dc_qe pm_qe an_qe cd_qe ct_qe,f_qbl,PySem.W.fnOf "step_back" "step_back" (Bk Nn) (Bj Nn) (Bd Nn) .none kV_qbl dc_qbl pm_qbl an_qbl cd_qbl ct_qbl,f_qbp,PySem.W.fnOf "way_back" "way_back" (Bk Nu) (Bj Nu) (Bd Nu) .none kV_qbp dc_qbp pm_qbp an_qbp cd_qbp ct_qbp,f_qc,PySem.W.fnOf "whole_to_whole" "whole_to_whole" (Bk Re) (Bj Re) (Bd Re) .none kV_qc dc_qc pm_qc an_qc cd_qc ct_qc,f_qbr,PySem.W.fnOf "way_to" "way_to" (Bk Og) (Bj Og) (Bd Og) .none kV_qbr dc_qbr pm_qbr an_qbr cd_qbr ct_qbr,fa,PySem.W.fnOf "law" "law" (Bk Jo) (Bj Jo) (Bd Jo) .none kV_qbt dc_qbt pm_qbt an_qbt cd_qbt ct_qbt,C_Book,a_JOINED_KINDS,a_TOLD_KINDS⟩:={
  F_qj:=Cd (st:=Rw) h_qj_l h_qj_c h_qj_k
  m_qj:=PySem.W.mg_of X G h_qj_a
  F_qbi:=Cd (st:=Ob) h_qbi_l h_qbi_c h_qbi_k
  m_qbi:=PySem.W.mg_of X G h_qbi_a
  F_qbe:=Cd (st:=Nm) h_qbe_l h_qbe_c h_qbe_k
  m_qbe:=PySem.W.mg_of X G h_qbe_a
  F_qbb:=Cd (st:=Nj) h_qbb_l h_qbb_c h_qbb_k
  m_qbb:=PySem.W.mg_of X G h_qbb_a
  F_qbc:=Cd (st:=Nv) h_qbc_l h_qbc_c h_qbc_k
  m_qbc:=PySem.W.mg_of X G h_qbc_a
  F_qbd:=Cd (st:=Oe) h_qbd_l h_qbd_c h_qbd_k
  m_qbd:=PySem.W.mg_of X G h_qbd_a
  F_qbh:=Cd (st:=Nx) h_qbh_l h_qbh_c h_qbh_k
  m_qbh:=PySem.W.mg_of X G h_qbh_a
  F_qbg:=Cd (st:=Ni) h_qbg_l h_qbg_c h_qbg_k
  m_qbg:=PySem.W.mg_of X G h_qbg_a
  F_qd:=Cd (st:=Rk) h_qd_l h_qd_c h_qd_k
  m_qd:=PySem.W.mg_of X G h_qd_a
  F_qf:=Cd (st:=Ry) h_qf_l h_qf_c h_qf_k
  m_qf:=PySem.W.mg_of X G h_qf_a
  F_qa:=Cd (st:=Rx) h_qa_l h_qa_c h_qa_k
  m_qa:=PySem.W.mg_of X G h_qa_a
  F_qbq:=Cd (st:=Nk) h_qbq_l h_qbq_c h_qbq_k
  m_qbq:=PySem.W.mg_of X G h_qbq_a
  F_qbn:=Cd (st:=Nr) h_qbn_l h_qbn_c h_qbn_k
  m_qbn:=PySem.W.mg_of X G h_qbn_a
  F_qh:=Cd (st:=Ra) h_qh_l h_qh_c h_qh_k
  m_qh:=PySem.W.mg_of X G h_qh_a
  F_qo:=Cd (st:=Sf) h_qo_l h_qo_c h_qo_k
  m_qo:=PySem.W.mg_of X G h_qo_a
  F_qq:=Cd (st:=Qt) h_qq_l h_qq_c h_qq_k
  m_qq:=PySem.W.mg_of X G h_qq_a
  F_qu:=Cd (st:=Qu) h_qu_l h_qu_c h_qu_k
  m_qu:=PySem.W.mg_of X G h_qu_a
  F_qz:=Cd (st:=Qs) h_qz_l h_qz_c h_qz_k
  m_qz:=PySem.W.mg_of X G h_qz_a
  F_qp:=Cd (st:=Sa) h_qp_l h_qp_c h_qp_k
  m_qp:=PySem.W.mg_of X G h_qp_a
  F_qn:=Cd (st:=Rr) h_qn_l h_qn_c h_qn_k
  m_qn:=PySem.W.mg_of X G h_qn_a
  F_qg:=Cd (st:=Rv) h_qg_l h_qg_c h_qg_k
  m_qg:=PySem.W.mg_of X G h_qg_a
  F_qt:=Cd (st:=Qv) h_qt_l h_qt_c h_qt_k
  m_qt:=PySem.W.mg_of X G h_qt_a
  F_qk:=Cd (st:=Sb) h_qk_l h_qk_c h_qk_k
  m_qk:=PySem.W.mg_of X G h_qk_a
  F_qv:=Cd (st:=Qx) h_qv_l h_qv_c h_qv_k
  F_qbo:=Cd (st:=No) h_qbo_l h_qbo_c h_qbo_k
  m_qbo:=PySem.W.mg_of X G h_qbo_a
  F_qbj:=Cd (st:=Od) h_qbj_l h_qbj_c h_qbj_k
  m_qbj:=PySem.W.mg_of X G h_qbj_a
  F_qr:=Cd (st:=Ro) h_qr_l h_qr_c h_qr_k
  m_qr:=PySem.W.mg_of X G h_qr_a
  F_qba:=Cd (st:=Oa) h_qba_l h_qba_c h_qba_k
  m_qba:=PySem.W.mg_of X G h_qba_a
  F_qbf:=Cd (st:=Nt) h_qbf_l h_qbf_c h_qbf_k
  m_qbf:=PySem.W.mg_of X G h_qbf_a
  F_qw:=Cd (st:=Si) h_qw_l h_qw_c h_qw_k
  M_qw:=⟨h_qw_a,h_qw_i,h_qw_k⟩
  F_qbm:=Cd (st:=Nz) h_qbm_l h_qbm_c h_qbm_k
  m_qbm:=PySem.W.mg_of X G h_qbm_a
  F_qy:=Cd (st:=Qw) h_qy_l h_qy_c h_qy_k
  M_qy:=⟨h_qy_a,h_qy_i,h_qy_k⟩
  B_qy:=⟨h_qy_a,h_qy_i,h_qy_g,h_qy_t,by decide⟩
  F_qm:=Cd (st:=Sj) h_qm_l h_qm_c h_qm_k
  M_qm:=⟨h_qm_a,h_qm_i,h_qm_k⟩
  F_ql:=Cd (st:=Ru) h_ql_l h_ql_c h_ql_k
  m_ql:=PySem.W.mg_of X G h_ql_a
  F_qs:=Cd (st:=Qy) h_qs_l h_qs_c h_qs_k
  m_qs:=PySem.W.mg_of X G h_qs_a
  F_qbk:=Cd (st:=Nl) h_qbk_l h_qbk_c h_qbk_k
  m_qbk:=PySem.W.mg_of X G h_qbk_a
  F_qb:=Cd (st:=Se) h_qb_l h_qb_c h_qb_k
  m_qb:=PySem.W.mg_of X G h_qb_a
  F_qe:=Cd (st:=Rt) h_qe_l h_qe_c h_qe_k
  m_qe:=PySem.W.mg_of X G h_qe_a
  F_qbl:=Cd (st:=Nn) h_qbl_l h_qbl_c h_qbl_k
  m_qbl:=PySem.W.mg_of X G h_qbl_a
  F_qbp:=Cd (st:=Nu) h_qbp_l h_qbp_c h_qbp_k
  m_qbp:=PySem.W.mg_of X G h_qbp_a
  F_qc:=Cd (st:=Re) h_qc_l h_qc_c h_qc_k
  m_qc:=PySem.W.mg_of X G h_qc_a
  F_qbr:=Cd (st:=Og) h_qbr_l h_qbr_c h_qbr_k
  m_qbr:=PySem.W.mg_of X G h_qbr_a
  F_qbt:=Cd (st:=Jo) h_qbt_l h_qbt_c h_qbt_k
  m_qbt:=PySem.W.mg_of X G h_qbt_a
  m_Book:=PySem.W.mg_of X G aC_Book
  cl_Book:=⟨pg_Book,hd_Book,po_Book,sa_Book⟩
  K_Book:=⟨mk_Book,h_qv_a,h_qv_i,kc_Book⟩
  n_Book_kinds:=n_Book_kinds
  n_Book_ranks:=n_Book_ranks
  n_Book_mates:=n_Book_mates
  n_Book_pairs:=n_Book_pairs
  n_Book_wholes:=n_Book_wholes
  z_bool:=PySem.W.mg_none_of X G z_bool
  z_enumerate:=PySem.W.mg_none_of X G z_enumerate
  z_int:=PySem.W.mg_none_of X G z_int
  z_isinstance:=PySem.W.mg_none_of X G z_isinstance
  z_len:=PySem.W.mg_none_of X G z_len
  z_list:=PySem.W.mg_none_of X G z_list
  z_range:=PySem.W.mg_none_of X G z_range
  z_reversed:=PySem.W.mg_none_of X G z_reversed
  z_sorted:=PySem.W.mg_none_of X G z_sorted
  z_str:=PySem.W.mg_none_of X G z_str
  z_tuple:=PySem.W.mg_none_of X G z_tuple
  z_zip:=PySem.W.mg_none_of X G z_zip
  g_JOINED_KINDS:=PySem.W.mg_of X G g_JOINED_KINDS
  q_JOINED_KINDS:=fun _=>.inr ⟨_,_,_,l_JOINED_KINDS,rfl,rfl,s_JOINED_KINDS,v_JOINED_KINDS⟩
  g_MOST_GOINGS:=⟨_,PySem.W.mg_of X G g_MOST_GOINGS,r_MOST_GOINGS⟩
  g_TOLD_KINDS:=PySem.W.mg_of X G g_TOLD_KINDS
  q_TOLD_KINDS:=fun _=>.inr ⟨_,_,_,l_TOLD_KINDS,rfl,rfl,s_TOLD_KINDS,v_TOLD_KINDS⟩ }
 exact ⟨PySem.W.fnOf "law" "law" (Bk Jo) (Bj Jo) (Bd Jo) .none kV_qbt dc_qbt pm_qbt an_qbt cd_qbt ct_qbt,fun s v=>.of_eq rfl,fun base _ _=>(Aip T).imp Ag9⟩
theorem walk {l:PySem.W.OpenLaw} {q:Program} {loose:List Str} {XP:(Str->Option Value)->Heap->Prop} {YP:World->Heap->Prop} {d:DefRec} {K:Params->PySem.W.Frag} (hn:l.most = some 63) (hdf:d.params.defaults = [])
  (hY:∀ (w:World) (h:Heap),YP w h->(K w.params).In h)
  (F:∀ (w:World) (mg:Str->Option Value) (fa:Addr) (h:Heap),(K w.params).In h->h.Ns mainGlobals mg->mg d.name = some (.ref fa) ->
   ∃ fd:FuncData,(∀ (s:Shared) (u:Value),BindsTo s fd ⟨[u],[]⟩ [("_law_script",u)])/\∀ base:Heap,(K w.params).In base->base.Ns mainGlobals mg->FnOk l.prog w (K w.params) mg base CX0 7 fa fd ["_law_script"] (Vq (K w.params))) :
  PySem.W.WalkO q loose XP YP l.row.toRowW d [] (fun f vs=>PySem.call f vs) :=
 L2.Al8 (n:=63) (k:=7) (x:="_law_script") (CX:=fun w=>CX0) (sp:=fun w=>Vq (K w.params)) hn (by decide) hdf ⟨rfl,by decide,by decide⟩ hY F (fun _ _ a ns hl _ hS=>⟨a,ns,rfl,hS,hl,fun _=>rfl⟩) fun _ _ _ _ _ z=>z
end My
open PySem PySem.W PyProof.Rows
set_option maxRecDepth 100000 in
set_option maxHeartbeats 0 in
theorem PySem.Challenge.cw_bothhands_k23_no_way_holds : PySem.Challenge.rw_bothhands_k23_no_way.Holds := by
 w_on; o_law; k_head; (case hw=>w_witness2)
 k_fill
 refine My.walk (l:=PySem.Challenge.rw_bothhands_k23_no_way) rfl rfl (fun w h Y=>PySem.W.kIn_of Y) ?F
 case F =>
  intro w mg fa h KX G hmg
  refine' My.all_mk KX G hmg ?aC_Book ?h_qj_a ?h_qj_l ?h_qj_c ?h_qj_k ?h_qbi_a ?h_qbi_l ?h_qbi_c ?h_qbi_k ?h_qbe_a ?h_qbe_l ?h_qbe_c ?h_qbe_k ?h_qbb_a ?h_qbb_l ?h_qbb_c ?h_qbb_k ?h_qbc_a ?h_qbc_l ?h_qbc_c ?h_qbc_k ?h_qbd_a ?h_qbd_l ?h_qbd_c ?h_qbd_k ?h_qbh_a ?h_qbh_l ?h_qbh_c ?h_qbh_k ?h_qbg_a ?h_qbg_l ?h_qbg_c ?h_qbg_k ?h_qd_a ?h_qd_l ?h_qd_c ?h_qd_k ?h_qf_a ?h_qf_l ?h_qf_c ?h_qf_k ?h_qa_a ?h_qa_l ?h_qa_c ?h_qa_k ?h_qbq_a ?h_qbq_l ?h_qbq_c ?h_qbq_k ?h_qbn_a ?h_qbn_l ?h_qbn_c ?h_qbn_k ?h_qh_a ?h_qh_l ?h_qh_c ?h_qh_k ?h_qo_a ?h_qo_l ?h_qo_c ?h_qo_k ?h_qq_a ?h_qq_l ?h_qq_c ?h_qq_k ?h_qu_a ?h_qu_l ?h_qu_c ?h_qu_k ?h_qz_a ?h_qz_l ?h_qz_c ?h_qz_k ?h_qp_a ?h_qp_l ?h_qp_c ?h_qp_k ?h_qn_a ?h_qn_l ?h_qn_c ?h_qn_k ?h_qg_a ?h_qg_l ?h_qg_c ?h_qg_k ?h_qt_a ?h_qt_l ?h_qt_c ?h_qt_k ?h_qk_a ?h_qk_l ?h_qk_c ?h_qk_k ?h_qv_a ?h_qv_i ?h_qv_l ?h_qv_c ?h_qv_k ?h_qbo_a ?h_qbo_l ?h_qbo_c ?h_qbo_k ?h_qbj_a ?h_qbj_l ?h_qbj_c ?h_qbj_k ?h_qr_a ?h_qr_l ?h_qr_c ?h_qr_k ?h_qba_a ?h_qba_l ?h_qba_c ?h_qba_k ?h_qbf_a ?h_qbf_l ?h_qbf_c ?h_qbf_k ?h_qw_a ?h_qw_i ?h_qw_l ?h_qw_c ?h_qw_k ?h_qbm_a ?h_qbm_l ?h_qbm_c ?h_qbm_k ?h_qy_a ?h_qy_i ?h_qy_l ?h_qy_c ?h_qy_k ?h_qy_g ?h_qy_t ?h_qm_a ?h_qm_i ?h_qm_l ?h_qm_c ?h_qm_k ?h_ql_a ?h_ql_l ?h_ql_c ?h_ql_k ?h_qs_a ?h_qs_l ?h_qs_c ?h_qs_k ?h_qbk_a ?h_qbk_l ?h_qbk_c ?h_qbk_k ?h_qb_a ?h_qb_l ?h_qb_c ?h_qb_k ?h_qe_a ?h_qe_l ?h_qe_c ?h_qe_k ?h_qbl_a ?h_qbl_l ?h_qbl_c ?h_qbl_k ?h_qbp_a ?h_qbp_l ?h_qbp_c ?h_qbp_k ?h_qc_a ?h_qc_l ?h_qc_c ?h_qc_k ?h_qbr_a ?h_qbr_l ?h_qbr_c ?h_qbr_k ?h_qbt_a ?h_qbt_l ?h_qbt_c ?h_qbt_k ?pg_Book ?hd_Book ?po_Book ?sa_Book ?mk_Book ?kc_Book ?n_Book_kinds ?n_Book_ranks ?n_Book_mates ?n_Book_pairs ?n_Book_wholes ?z_bool ?z_enumerate ?z_int ?z_isinstance ?z_len ?z_list ?z_range ?z_reversed ?z_sorted ?z_str ?z_tuple ?z_zip ?g_JOINED_KINDS ?l_JOINED_KINDS ?s_JOINED_KINDS ?v_JOINED_KINDS ?g_MOST_GOINGS ?r_MOST_GOINGS ?g_TOLD_KINDS ?l_TOLD_KINDS ?s_TOLD_KINDS ?v_TOLD_KINDS
  (case aC_Book=>k_is)
  (case h_qj_a=>k_is)
  (case h_qj_l=>k_is)
  (case h_qj_c=>k_is)
  (case h_qj_k=>k_is)
  (case h_qbi_a=>k_is)
  (case h_qbi_l=>k_is)
  (case h_qbi_c=>k_is)
  (case h_qbi_k=>k_is)
  (case h_qbe_a=>k_is)
  (case h_qbe_l=>k_is)
  (case h_qbe_c=>k_is)
  (case h_qbe_k=>k_is)
  (case h_qbb_a=>k_is)
  (case h_qbb_l=>k_is)
  (case h_qbb_c=>k_is)
  (case h_qbb_k=>k_is)
  (case h_qbc_a=>k_is)
  (case h_qbc_l=>k_is)
  (case h_qbc_c=>k_is)
  (case h_qbc_k=>k_is)
  (case h_qbd_a=>k_is)
  (case h_qbd_l=>k_is)
  (case h_qbd_c=>k_is)
  (case h_qbd_k=>k_is)
  (case h_qbh_a=>k_is)
  (case h_qbh_l=>k_is)
  (case h_qbh_c=>k_is)
  (case h_qbh_k=>k_is)
  (case h_qbg_a=>k_is)
  (case h_qbg_l=>k_is)
  (case h_qbg_c=>k_is)
  (case h_qbg_k=>k_is)
  (case h_qd_a=>k_is)
  (case h_qd_l=>k_is)
  (case h_qd_c=>k_is)
  (case h_qd_k=>k_is)
  (case h_qf_a=>k_is)
  (case h_qf_l=>k_is)
  (case h_qf_c=>k_is)
  (case h_qf_k=>k_is)
  (case h_qa_a=>k_is)
  (case h_qa_l=>k_is)
  (case h_qa_c=>k_is)
  (case h_qa_k=>k_is)
  (case h_qbq_a=>k_is)
  (case h_qbq_l=>k_is)
  (case h_qbq_c=>k_is)
  (case h_qbq_k=>k_is)
  (case h_qbn_a=>k_is)
  (case h_qbn_l=>k_is)
  (case h_qbn_c=>k_is)
  (case h_qbn_k=>k_is)
  (case h_qh_a=>k_is)
  (case h_qh_l=>k_is)
  (case h_qh_c=>k_is)
  (case h_qh_k=>k_is)
  (case h_qo_a=>k_is)
  (case h_qo_l=>k_is)
  (case h_qo_c=>k_is)
  (case h_qo_k=>k_is)
  (case h_qq_a=>k_is)
  (case h_qq_l=>k_is)
  (case h_qq_c=>k_is)
  (case h_qq_k=>k_is)
  (case h_qu_a=>k_is)
  (case h_qu_l=>k_is)
  (case h_qu_c=>k_is)
  (case h_qu_k=>k_is)
  (case h_qz_a=>k_is)
  (case h_qz_l=>k_is)
  (case h_qz_c=>k_is)
  (case h_qz_k=>k_is)
  (case h_qp_a=>k_is)
  (case h_qp_l=>k_is)
  (case h_qp_c=>k_is)
  (case h_qp_k=>k_is)
  (case h_qn_a=>k_is)
  (case h_qn_l=>k_is)
  (case h_qn_c=>k_is)
  (case h_qn_k=>k_is)
  (case h_qg_a=>k_is)
  (case h_qg_l=>k_is)
  (case h_qg_c=>k_is)
  (case h_qg_k=>k_is)
  (case h_qt_a=>k_is)
  (case h_qt_l=>k_is)
  (case h_qt_c=>k_is)
  (case h_qt_k=>k_is)
  (case h_qk_a=>k_is)
  (case h_qk_l=>k_is)
  (case h_qk_c=>k_is)
  (case h_qk_k=>k_is)
  (case h_qv_a=>k_is)
  (case h_qv_i=>k_is)
  (case h_qv_l=>k_is)
  (case h_qv_c=>k_is)
  (case h_qv_k=>k_is)
  (case h_qbo_a=>k_is)
  (case h_qbo_l=>k_is)
  (case h_qbo_c=>k_is)
  (case h_qbo_k=>k_is)
  (case h_qbj_a=>k_is)
  (case h_qbj_l=>k_is)
  (case h_qbj_c=>k_is)
  (case h_qbj_k=>k_is)
  (case h_qr_a=>k_is)
  (case h_qr_l=>k_is)
  (case h_qr_c=>k_is)
  (case h_qr_k=>k_is)
  (case h_qba_a=>k_is)
  (case h_qba_l=>k_is)
  (case h_qba_c=>k_is)
  (case h_qba_k=>k_is)
  (case h_qbf_a=>k_is)
  (case h_qbf_l=>k_is)
  (case h_qbf_c=>k_is)
  (case h_qbf_k=>k_is)
  (case h_qw_a=>k_is)
  (case h_qw_i=>k_is)
  (case h_qw_l=>k_is)
  (case h_qw_c=>k_is)
  (case h_qw_k=>k_is)
  (case h_qbm_a=>k_is)
  (case h_qbm_l=>k_is)
  (case h_qbm_c=>k_is)
  (case h_qbm_k=>k_is)
  (case h_qy_a=>k_is)
  (case h_qy_i=>k_is)
  (case h_qy_l=>k_is)
  (case h_qy_c=>k_is)
  (case h_qy_k=>k_is)
  (case h_qy_g=>k_is)
  (case h_qy_t=>k_is)
  (case h_qm_a=>k_is)
  (case h_qm_i=>k_is)
  (case h_qm_l=>k_is)
  (case h_qm_c=>k_is)
  (case h_qm_k=>k_is)
  (case h_ql_a=>k_is)
  (case h_ql_l=>k_is)
  (case h_ql_c=>k_is)
  (case h_ql_k=>k_is)
  (case h_qs_a=>k_is)
  (case h_qs_l=>k_is)
  (case h_qs_c=>k_is)
  (case h_qs_k=>k_is)
  (case h_qbk_a=>k_is)
  (case h_qbk_l=>k_is)
  (case h_qbk_c=>k_is)
  (case h_qbk_k=>k_is)
  (case h_qb_a=>k_is)
  (case h_qb_l=>k_is)
  (case h_qb_c=>k_is)
  (case h_qb_k=>k_is)
  (case h_qe_a=>k_is)
  (case h_qe_l=>k_is)
  (case h_qe_c=>k_is)
  (case h_qe_k=>k_is)
  (case h_qbl_a=>k_is)
  (case h_qbl_l=>k_is)
  (case h_qbl_c=>k_is)
  (case h_qbl_k=>k_is)
  (case h_qbp_a=>k_is)
  (case h_qbp_l=>k_is)
  (case h_qbp_c=>k_is)
  (case h_qbp_k=>k_is)
  (case h_qc_a=>k_is)
  (case h_qc_l=>k_is)
  (case h_qc_c=>k_is)
  (case h_qc_k=>k_is)
  (case h_qbr_a=>k_is)
  (case h_qbr_l=>k_is)
  (case h_qbr_c=>k_is)
  (case h_qbr_k=>k_is)
  (case h_qbt_a=>k_is)
  (case h_qbt_l=>k_is)
  (case h_qbt_c=>k_is)
  (case h_qbt_k=>k_is)
  (case pg_Book=>k_is)
  (case hd_Book=>k_is)
  (case po_Book=>k_is)
  (case sa_Book=>k_is)
  (case mk_Book=>k_is)
  (case kc_Book=>k_is)
  (case n_Book_kinds=>k_is)
  (case n_Book_ranks=>k_is)
  (case n_Book_mates=>k_is)
  (case n_Book_pairs=>k_is)
  (case n_Book_wholes=>k_is)
  (case z_bool=>k_is)
  (case z_enumerate=>k_is)
  (case z_int=>k_is)
  (case z_isinstance=>k_is)
  (case z_len=>k_is)
  (case z_list=>k_is)
  (case z_range=>k_is)
  (case z_reversed=>k_is)
  (case z_sorted=>k_is)
  (case z_str=>k_is)
  (case z_tuple=>k_is)
  (case z_zip=>k_is)
  (case g_JOINED_KINDS=>k_is)
  (case l_JOINED_KINDS=>k_is)
  (case s_JOINED_KINDS=>decide)
  (case v_JOINED_KINDS=>exact .cons ⟨_,rfl⟩ (.cons ⟨_,rfl⟩ (.cons ⟨_,rfl⟩ (.cons ⟨_,rfl⟩ (.cons ⟨_,rfl⟩ (.nil))))))
  (case g_MOST_GOINGS=>k_is)
  (case r_MOST_GOINGS=>exact ⟨_,rfl⟩)
  (case g_TOLD_KINDS=>k_is)
  (case l_TOLD_KINDS=>k_is)
  (case s_TOLD_KINDS=>decide)
  (case v_TOLD_KINDS=>exact .cons ⟨_,rfl⟩ (.cons ⟨_,rfl⟩ (.cons ⟨_,rfl⟩ (.cons ⟨_,rfl⟩ (.cons ⟨_,rfl⟩ (.cons ⟨_,rfl⟩ (.cons ⟨_,rfl⟩ (.cons ⟨_,rfl⟩ (.nil)))))))))
