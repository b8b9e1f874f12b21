import PyProof.Rows.All
import Wide.All
import OpenK.AllK
import Wide.FinOn
import Lean
import PyProof.EqAt
import PyProof.EqKinds
import PyProof.TupleCall
import PyProof.NeKinds
import PyProof.DictItems
import PyProof.DictWalks
import KE.KTurnsDict
import KE.KDictSum
import KE.KSortKey
import KE.KBoundM
import KE.KMinKey
import KE.KRevIter
import KE.KFind
import KE.LcSums
import PyProof.ListRange
import PyProof.CollectIter
import PyProof.ConsumeWalk
import PyProof.ZipIter
import PySem.Challenge.RW_bothhands_k21_steps_refused
set_option Elab.async false
set_option linter.all false
set_option maxRecDepth 100000
namespace L2
open PySem PySem.Spec PyProof.Rows
abbrev Key:=Sum Int Str
def Sq:Key->Value->Bool
 | .inl k,v=>Value.isInt k v
 | .inr x,v=>Value.isStrOf x v
def AkP (w:World):Key->Int
 | .inl k=>hashInt k
 | .inr x=>hashStr w x
theorem Dt:∀ {k:Key} {v:Value},Sq k v = true->(∃ i t,k = Sum.inl i/\v = Value.int i t)\/(∃ x t,k = Sum.inr x/\v = Value.str x t)
 | .inl i,v,h=>by
  obtain ⟨t,e⟩:=Value.isInt_shape (k:=i) (v:=v) h
  exact .inl ⟨i,t,rfl,e⟩
 | .inr x,v,h=>by
  obtain ⟨t,e⟩:=Value.isStrOf_shape (x:=x) (v:=v) h
  exact .inr ⟨x,t,rfl,e⟩
theorem AdF (i:Int) (t:Tok):Sq (.inl i) (.int i t) = true:=by simp [Sq,Value.isInt]
theorem Acs (x:Str) (t:Tok):Sq (.inr x) (.str x t) = true:=by simp [Sq,Value.isStrOf]
theorem Ajh (a b:Int):decide ((Sum.inl a:Key) = Sum.inl b) = (a == b):=by
 by_cases e:a = b
 ·subst e; simp
 ·have h:¬ (Sum.inl a:Key) = Sum.inl b:=fun q=>e (Sum.inl.inj q)
  rw [decide_eq_false h]
  exact (beq_eq_false_iff_ne.mpr e).symm
theorem Aif (a b:Str):decide ((Sum.inr a:Key) = Sum.inr b) = decide (a = b):=by
 by_cases e:a = b
 ·subst e; simp
 ·have h:¬ (Sum.inr a:Key) = Sum.inr b:=fun q=>e (Sum.inr.inj q)
  rw [decide_eq_false h,decide_eq_false e]
theorem Ahx (a:Int) (b:Str):decide ((Sum.inl a:Key) = Sum.inr b) = false:=decide_eq_false (fun q=>nomatch q)
theorem Aik (a:Str) (b:Int):decide ((Sum.inr a:Key) = Sum.inl b) = false:=decide_eq_false (fun q=>nomatch q)
def Cs (prog:Program) (w:World):PySem.KeyKind prog w Key where
 is:=Sq
 hash:=AkP w
 inj:=fun v a b ha hb=>by
  rcases Dt ha with ⟨i,t,rfl,rfl⟩ | ⟨x,t,rfl,rfl⟩
  ·rcases Dt hb with ⟨j,u,rfl,e⟩ | ⟨y,u,rfl,e⟩
   ·injection e with e1 _; rw [e1]
   ·exact nomatch e
  ·rcases Dt hb with ⟨j,u,rfl,e⟩ | ⟨y,u,rfl,e⟩
   ·exact nomatch e
   ·injection e with e1 _; rw [e1]
 byValue:=fun k v h=>by
  rcases Dt h with ⟨i,t,rfl,rfl⟩ | ⟨x,t,rfl,rfl⟩ <;> rfl
 pyHash:=fun hv h=>by
  rcases Dt hv with ⟨i,t,rfl,rfl⟩ | ⟨x,t,rfl,rfl⟩
  ·exact wpAny_pyHash_int h
  ·exact wpAny_pyHash_str h
 eqBool:=fun hu hv h=>by
  rcases Dt hu with ⟨i,t,rfl,rfl⟩ | ⟨x,t,rfl,rfl⟩
  ·rcases Dt hv with ⟨j,u,rfl,rfl⟩ | ⟨y,u,rfl,rfl⟩
   ·rw [Ajh] at h; exact wpAny_eqBool_int h
   ·rw [Ahx] at h; exact SeqAt.EqAt.int_str i t y u _ _ _ _ h
  ·rcases Dt hv with ⟨j,u,rfl,rfl⟩ | ⟨y,u,rfl,rfl⟩
   ·rw [Aik] at h; exact SeqAt.EqAt.str_int x t j u _ _ _ _ h
   ·rw [Aif] at h; exact wpAny_eqBool_str h
 «strs»:=fun k x t v h=>by
  rcases Dt h with ⟨i,u,rfl,e⟩ | ⟨y,u,rfl,e⟩
  ·exact nomatch e
  ·injection e with e1 _
   subst e1
   cases v <;> rfl
theorem Aab (prog:Program) (w:World) (i:Int) (t:Tok):(Cs prog w).is (.inl i) (.int i t) = true:=AdF i t
theorem Aag (prog:Program) (w:World) (x:Str) (t:Tok):(Cs prog w).is (.inr x) (.str x t) = true:=Acs x t
end L2
namespace L2
open PySem PySem.Spec PyProof.Rows
inductive V where
 | non | bl (b:Bool) | int (i:Int) | str (x:Str) | byt (b:Array UInt8) | flt (b:UInt64) | ref (a:Addr) | ty (n:String)
 deriving DecidableEq
def RelV:V->Value->Prop
 | .non,u=>u = Value.none
 | .bl b,u=>u = Value.bool b
 | .int i,u=>∃ t,u = Value.int i t
 | .str x,u=>∃ t,u = Value.str x t
 | .byt b,u=>∃ t,u = Value.bytes b t
 | .flt b,u=>∃ t,u = Value.float b t
 | .ref a,u=>u = Value.ref a
 | .ty n,u=>u = Value.type n
abbrev Vals:List V->List Value->Prop:=Paired RelV
theorem Vals.length {xs:List V} {us:List Value} (r:Vals xs us):xs.length = us.length:=Paired.length r
theorem Vals.get:∀ {xs:List V} {us:List Value} {i:Nat} {x:V},Vals xs us->xs[i]? = some x->∃ u,us[i]? = some u/\RelV x u
 | _,_,_,_,.nil,e=>by simp at e
 | _,_,0,_,.cons r _,e=>by simp at e; subst e; exact ⟨_,rfl,r⟩
 | _,_,i + 1,x,.cons _ t,e=>by
  obtain ⟨u,h1,h2⟩:=Vals.get (i:=i) (x:=x) t (by simpa using e)
  exact ⟨u,by simpa using h1,h2⟩
theorem Vals.append:∀ {xs ys:List V} {us ws:List Value},Vals xs us->Vals ys ws->Vals (xs ++ ys) (us ++ ws)
 | _,_,_,_,.nil,s=>s
 | _,_,_,_,.cons r t,s=>.cons r (Vals.append t s)
theorem Vals.take:∀ {xs:List V} {us:List Value} (n:Nat),Vals xs us->Vals (xs.take n) (us.take n)
 | _,_,0,_=>.nil
 | _,_,_ + 1,.nil=>.nil
 | _,_,n + 1,.cons r t=>.cons r (Vals.take n t)
theorem Vals.drop:∀ {xs:List V} {us:List Value} (n:Nat),Vals xs us->Vals (xs.drop n) (us.drop n)
 | _,_,0,r=>r
 | _,_,_ + 1,.nil=>.nil
 | _,_,n + 1,.cons _ t=>Vals.drop n t
def RelO:Option V->Option Value->Prop
 | some v,some u=>RelV v u
 | none,none=>True
 | _,_=>False
def KV {κ:Type}:List (κ × V)->List (κ × Value)->Prop:=Paired fun (p:κ × V) (q:κ × Value)=>p.1 = q.1/\RelV p.2 q.2
def kV:Key->V
 | .inl i=>.int i
 | .inr x=>.str x
inductive HO where
 | lst (xs:List V)
 | tup (xs:List V)
 | dK (kvs:List (Key × V)) | dT (kvs:List (List Key × V))
 | set (S:Int->Bool) (n:Nat)
 | ins (C dx:Addr) (fs:List (Str × V))
 | own (x:Addr)
 | xd (fs:List (Str × V))
 | met (f x:Addr)
 | rng (lo hi:Int)
 | frz (o:Obj) (u:HO)
 | tbl (ps:Array Value)
 | ext (φ:Heap->Prop)
abbrev Hp:=Addr->Option HO
def upd (H:Hp) (a:Addr) (o:HO):Hp:=fun b=>if b = a then some o else H b
theorem Bk {H:Hp} {a:Addr} {o:HO}:upd H a o a = some o:=by unfold upd; rw [if_pos rfl]
theorem Bg {H:Hp} {a b:Addr} {o:HO} (h:b ≠ a):upd H a o b = H b:=by unfold upd; rw [if_neg h]
theorem Fx {H:Hp} {a:Addr} {o u:HO}:upd (upd H a o) a u = upd H a u:=by
 funext b; unfold upd; split <;> rfl
theorem Df {H:Hp} {a b:Addr} {o u:HO} (h:H a = some o) (h':H b = some u) (d:o ≠ u):a ≠ b:=by
 intro e; subst e; rw [h] at h'; exact d (Option.some.inj h')
theorem Bn {H:Hp} {a b:Addr} {o:HO} (h:H a = some o) (h':H b = none):a ≠ b:=by
 intro e; subst e; rw [h] at h'; cases h'
section
variable (P:Program) (w:World)
def ObjOk (H:Hp) (h:Heap) (a:Addr):HO->Prop
 | .lst xs=>xs.length <= sizeLine/\∃ (its:List Value) (n:Nat),Vals xs its/\h.get? a = some { cls:=.type "list",data:=.seq its.toArray n }
 | .tup xs=>xs.length <= sizeLine/\∃ its:List Value,Vals xs its/\IsTup h a its.toArray
 | .dK kvs=>kvs.length <= sizeLine/\(a == sysModules) = false/\∃ vs,KV kvs vs/\h.DictOf (Cs P w) a vs
 | .dT kvs=>kvs.length <= sizeLine/\(a == sysModules) = false/\∃ xs:List (List Key × Addr × Value),
   Paired (fun (p:List Key × V) (q:List Key × Addr × Value)=>p.1 = q.1/\H q.2.1 = some (.tup (p.1.map kV))/\RelV p.2 q.2.2) kvs xs /\
   ∃ o es ep,h.get? a = some o/\o.ExactDict/\o.data = .dict es ep/\es.toList = xs.map (entryOfKey (tupleKind (Cs P w)))/\(xs.map (·.1)).Nodup
 | .set S n=>h.SetOf (intKind P w) a S n
 | .ins C dx fs=>H dx = some (.own a)/\fs.length <= 1000/\dx ≠ a/\h.get? a = some (PySem.W.instObj C dx) /\
   ∃ mA,h.Ns1 dx mA/\(∀ f,RelO (fs.lookup f) (mA f))/\PySem.Within mA (fs.map (·.1))
 | .own _=>∃ o,h.get? a = some o
 | .xd fs=>∃ mA,h.Ns1 a mA/\∀ f,RelO (fs.lookup f) (mA f)
 | .rng lo hi=>∃ t u v,h.get? a = some { cls:=.type "range",data:=.fields #[.int lo t,.int hi u,.int 1 v] }
 | .frz o u=>h.get? a = some o/\ObjOk H h a u
 | .tbl ps=>h.get? a = some { cls:=.none,data:=.fields ps }
 | .met f x=>h.get? a = some (PySem.W.methodObj (.ref f) (.ref x))
 | .ext φ=>φ h/\(∃ o,h.get? a = some o)/\∀ h1 h2:Heap,φ h1->(∀ o,h1.get? a = some o->h2.get? a = some o)->φ h2
def HOk (H:Hp) (h:Heap):Prop:=∀ a o,H a = some o->ObjOk P w H h a o
end
section
variable {P:Program} {w:World} {H H':Hp} {h h':Heap} {a:Addr} {o:HO}
theorem ObjOk.lt (x:ObjOk P w H h a o):a < h.objs.size:=by
 cases o with
 | lst xs=>obtain ⟨_,_,_,_,e⟩:=x; exact Heap.lt_size e
 | tup xs=>obtain ⟨_,_,_,p⟩:=x; exact p.lt
 | dK kvs=>obtain ⟨_,_,_,_,o,_,_,e,_⟩:=x; exact Heap.lt_size e
 | dT kvs=>obtain ⟨_,_,_,_,o,_,_,e,_⟩:=x; exact Heap.lt_size e
 | set S n=>obtain ⟨o,_,_,_,e,_⟩:=x; exact Heap.lt_size e
 | ins C dx fs=>obtain ⟨_,_,_,e,_⟩:=x; exact Heap.lt_size e
 | own y=>obtain ⟨_,e⟩:=x; exact Heap.lt_size e
 | xd fs=>obtain ⟨_,⟨_,_,_,e,_⟩,_⟩:=x; exact Heap.lt_size e
 | rng lo hi=>obtain ⟨_,_,_,e⟩:=x; exact Heap.lt_size e
 | frz ob u=>obtain ⟨e,_⟩:=x; exact Heap.lt_size e
 | tbl ps=>exact Heap.lt_size (show h.get? a = some _ from x)
 | met f y=>exact Heap.lt_size (show h.get? a = some _ from x)
 | ext φ=>obtain ⟨_,⟨_,e⟩,_⟩:=x; exact Heap.lt_size e
theorem Paired.mapP {α β:Type} {F G:α->β->Prop}:∀ {l₁:List α} {l₂:List β},Paired F l₁ l₂->(∀ a b,F a b->G a b)->Paired G l₁ l₂
 | _,_,.nil,_=>.nil
 | _,_,.cons r t,f=>.cons (f _ _ r) (Paired.mapP t f)
theorem ObjOk.stay (x:ObjOk P w H h a o) (k:∀ b u,(b = a\/H b = some (.own a))->h.get? b = some u->h'.get? b = some u)
  (ho:∀ b,H b = some (.own a)->H' b = some (.own a)) (ht:∀ b xs,H b = some (.tup xs)->H' b = some (.tup xs)):ObjOk P w H' h' a o:=by
 induction o with
 | lst xs=>obtain ⟨z,its,n,r,e⟩:=x; exact ⟨z,its,n,r,k _ _ (.inl rfl) e⟩
 | tup xs=>obtain ⟨z,its,r,ob,e,c⟩:=x; exact ⟨z,its,r,ob,k _ _ (.inl rfl) e,c⟩
 | dK kvs=>obtain ⟨z,y,vs,r,ob,es,ep,e,c⟩:=x; exact ⟨z,y,vs,r,ob,es,ep,k _ _ (.inl rfl) e,c⟩
 | dT kvs =>
  obtain ⟨z,y,xs,r,ob,es,ep,e,c⟩:=x
  exact ⟨z,y,xs,Paired.mapP r fun p q z=>⟨z.1,ht _ _ z.2.1,z.2.2⟩,ob,es,ep,k _ _ (.inl rfl) e,c⟩
 | set S n=>obtain ⟨ob,es,ep,t,e,c⟩:=x; exact ⟨ob,es,ep,t,k _ _ (.inl rfl) e,c⟩
 | ins C dx fs =>
  obtain ⟨d,z,ne,e,mA,⟨od,es,ep,e2,c⟩,r⟩:=x
  exact ⟨ho _ d,z,ne,k _ _ (.inl rfl) e,mA,⟨od,es,ep,k _ _ (.inr d) e2,c⟩,r⟩
 | own y=>obtain ⟨ob,e⟩:=x; exact ⟨ob,k _ _ (.inl rfl) e⟩
 | xd fs=>obtain ⟨mA,⟨od,es,ep,e,c⟩,r⟩:=x; exact ⟨mA,⟨od,es,ep,k _ _ (.inl rfl) e,c⟩,r⟩
 | rng lo hi=>obtain ⟨t,u,v,e⟩:=x; exact ⟨t,u,v,k _ _ (.inl rfl) e⟩
 | frz ob u ih=>obtain ⟨e,q⟩:=x; exact ⟨k _ _ (.inl rfl) e,ih q⟩
 | tbl ps =>
  have e:h.get? a = some { cls:=.none,data:=.fields ps }:=x
  show h'.get? a = some { cls:=.none,data:=.fields ps }
  exact k a _ (.inl rfl) e
 | met f y =>
  have e:h.get? a = some (PySem.W.methodObj (.ref f) (.ref y)):=x
  show h'.get? a = some (PySem.W.methodObj (.ref f) (.ref y))
  exact k a _ (.inl rfl) e
 | ext φ=>obtain ⟨p,⟨o,e⟩,st⟩:=x; exact ⟨st _ _ p fun o q=>k _ _ (.inl rfl) q,⟨o,k _ _ (.inl rfl) e⟩,st⟩
theorem HOk.lt (x:HOk P w H h) (e:H a = some o):a < h.objs.size:=(x a o e).lt
theorem HOk.fresh (x:HOk P w H h) (e:h.objs.size <= a):H a = none:=by
 cases q:H a with
 | none=>rfl
 | some u=>exact absurd (Nat.lt_of_lt_of_le (x.lt q) e) (Nat.lt_irrefl _)
theorem HOk.kept (x:HOk P w H h) (k:∀ b u,h.get? b = some u->h'.get? b = some u):HOk P w H h':=fun a o e =>
 (x a o e).stay (fun b u _ q=>k b u q) (fun _ q=>q) fun _ _ q=>q
theorem HOk.laid (x:HOk P w H h) (k:∀ b u,h.get? b = some u->h'.get? b = some u) (hp:h.objs.size <= a) (new:ObjOk P w (upd H a o) h' a o):HOk P w (upd H a o) h':=fun b u e=>by
 have hn:=x.fresh hp
 by_cases hb:b = a
 ·subst hb; rw [Bk] at e; cases e; exact new
 ·rw [Bg hb] at e
  exact (x b u e).stay (fun c v _ q=>k c v q) (fun c q=>by rw [Bg (Bn q hn)]; exact q) fun c xs q=>by rw [Bg (Bn q hn)]; exact q
end
def Rd (H:Hp) (a:Addr) (u:HO):Prop:=H a = some u\/∃ o,H a = some (.frz o u)
theorem Rd.ok {P:Program} {w:World} {H:Hp} {h:Heap} {a:Addr} {u:HO} (r:Rd H a u) (x:HOk P w H h):ObjOk P w H h a u:=by
 rcases r with r | ⟨o,r⟩
 ·exact x a u r
 ·obtain ⟨_,q⟩:=x a _ r
  exact q
def Mut:Option HO->Prop
 | some (.lst _)=>True
 | some (.dK _)=>True
 | some (.dT _)=>True
 | some (.set _ _)=>True
 | some (.ins _ _ _)=>True
 | some (.ext _)=>True
 | _=>False
section
variable {P:Program} {w:World} {H:Hp} {h h':Heap} {x e:Addr} {o':HO}
theorem HOk.write (ok:HOk P w H h) (mu:Mut (H x)) (he:e = x\/H e = some (.own x)) (k:∀ b u,b ≠ e->h.get? b = some u->h'.get? b = some u) (heo:∃ u,h'.get? e = some u)
  (new:ObjOk P w (upd H x o') h' x o'):HOk P w (upd H x o') h':=fun b u q=>by
 have nown:∀ c y,H c = some (.own y)->c ≠ x:=fun c y r z=>by subst z; rw [r] at mu; exact mu
 have ntup:∀ c xs,H c = some (.tup xs)->c ≠ x:=fun c xs r z=>by subst z; rw [r] at mu; exact mu
 by_cases hb:b = x
 ·subst hb; rw [Bk] at q; cases q; exact new
 ·rw [Bg hb] at q
  by_cases hbe:b = e
  ·have q':H b = some (.own x):=by
    rcases he with z | z
    ·exact absurd (hbe.trans z) hb
    ·rw [hbe]; exact z
   rw [q] at q'; cases q'
   obtain ⟨v,hv⟩:=heo
   exact ⟨v,by rw [hbe]; exact hv⟩
  ·refine (ok b u q).stay (fun c v hc r=>k c v ?_ r) (fun c r=>by rw [Bg (nown c b r)]; exact r) fun c xs r=>by rw [Bg (ntup c xs r)]; exact r
   rcases hc with rfl | hc
   ·exact hbe
   ·rintro rfl
    rcases he with z | z
    ·exact nown c b hc z
    ·rw [hc] at z; cases z; exact hb rfl
end
structure Un (fs ex:List Addr) (H H':Hp) (h h':Heap):Prop where
 keep:∀ b o,h.get? b = some o->H b = none->b ∉ fs->b ∉ ex->h'.get? b = some o
 slot:∀ b o,h.get? b = some o->H b = none->b ∈ fs->b ∉ ex->∃ sl,h'.get? b = some { o with slots:=sl }
 free:∀ b o,h.get? b = some o->H b = none->b ∉ ex->H' b = none
 there:∀ b o,h.get? b = some o->b ∉ ex->∃ o',h'.get? b = some o'
 tups:∀ b xs,H b = some (.tup xs)->H' b = some (.tup xs)
 frzs:∀ b o u,H b = some (.frz o u)->H' b = some (.frz o u)
 tbls:∀ b ps,H b = some (.tbl ps)->∃ more,H' b = some (.tbl (ps ++ more))
section
variable {fs fs' ex ex':List Addr} {H H1 H2:Hp} {h h1 h2 h':Heap} {a x e:Addr} {o:HO}
theorem Un.any (u:Un fs ex H H1 h h1) {b:Addr} {ob:Obj} (q:h.get? b = some ob) (n:H b = none) (hx:b ∉ ex):∃ sl,h1.get? b = some { ob with slots:=sl }:=by
 by_cases hb:b ∈ fs
 ·exact u.slot b ob q n hb hx
 ·exact ⟨ob.slots,u.keep b ob q n hb hx⟩
theorem Un.kept (k:∀ b u,h.get? b = some u->h'.get? b = some u):Un fs ex H H h h' :=
 ⟨fun b ob q _ _ _=>k b ob q,fun b ob q _ _ _=>⟨ob.slots,k b ob q⟩,fun _ _ _ n _=>n,fun b ob q _=>⟨ob,k b ob q⟩,fun _ _ q=>q,fun _ _ _ q=>q,fun _ ps q=>⟨#[],by rw [q]; simp⟩⟩
theorem Un.refl:Un fs ex H H h h:=Un.kept fun _ _ q=>q
theorem Un.laid (k:∀ b u,h.get? b = some u->h'.get? b = some u) (hp:h.objs.size <= a) (hn:H a = none):Un fs ex H (upd H a o) h h' where
 keep:=fun b u q _ _ _=>k b u q
 slot:=fun b u q _ _ _=>⟨u.slots,k b u q⟩
 free:=fun b u q n _=>by rw [Bg (Nat.ne_of_lt (Nat.lt_of_lt_of_le (Heap.lt_size q) hp))]; exact n
 there:=fun b u q _=>⟨u,k b u q⟩
 tups:=fun b xs q=>by rw [Bg (Bn q hn)]; exact q
 frzs:=fun b u xs q=>by rw [Bg (Bn q hn)]; exact q
 tbls:=fun b ps q=>⟨#[],by rw [Bg (Bn q hn),q]; simp⟩
theorem Un.write (mu:Mut (H x)) (he:e = x\/H e = some (.own x)) (k:∀ b u,b ≠ e->h.get? b = some u->h'.get? b = some u) (heo:∃ u,h'.get? e = some u):Un fs ex H (upd H x o) h h':=by
 have hx:∀ b,H b = none->b ≠ x:=fun b n z=>by subst z; rw [n] at mu; exact mu
 have hb:∀ b,H b = none->b ≠ e:=fun b n z=>by
  subst z
  rcases he with r | r
  ·exact hx b n r
  ·rw [n] at r; cases r
 have hm:∀ b u,H b = some u->¬ Mut (some u)->b ≠ x:=fun b u q nm z=>by subst z; rw [q] at mu; exact nm mu
 refine ⟨fun b u q n _ _=>k b u (hb b n) q,fun b u q n _ _=>⟨u.slots,k b u (hb b n) q⟩,fun b u q n _=>by rw [Bg (hx b n)]; exact n,fun b u q _=>?_,
  fun b xs q=>by rw [Bg (hm b _ q fun z=>z)]; exact q,fun b u xs q=>by rw [Bg (hm b _ q fun z=>z)]; exact q,fun b ps q=>⟨#[],by rw [Bg (hm b _ q fun z=>z),q]; simp⟩⟩
 by_cases hbe:b = e
 ·subst hbe; exact heo
 ·exact ⟨u,k b u hbe q⟩
end
def trk (h:Heap) (H:Hp):List Addr:=(List.range h.objs.size).filter fun a=>(H a).isSome
def Ri (h:Heap) (H:Hp):Heap:=PySem.W.hideAll h (trk h H)
theorem Adn (h:Heap) (H:Hp):(Ri h H).objs.size = h.objs.size:=PySem.W.hideAll_size _ _
theorem AeL {h:Heap} {H:Hp} {b:Addr} {o:Obj} (e:h.get? b = some o) (n:H b = none):(Ri h H).get? b = some o :=
 PySem.W.hideAll_get _ e fun hm=>by
  have q:(H b).isSome = true:=(List.mem_filter.mp hm).2
  rw [n] at q; simp at q
theorem AgW {h:Heap} {H:Hp} {b:Addr} {o:Obj} (e:(Ri h H).get? b = some o):h.get? b = some o/\H b = none:=by
 have e':h.get? b = some o:=PySem.W.of_hideAll (trk h H) e
 refine ⟨e',?_⟩
 cases q:H b with
 | none=>rfl
 | some x =>
  have hm:b ∈ trk h H:=List.mem_filter.mpr ⟨List.mem_range.mpr (Heap.lt_size e'),by simp [q]⟩
  have z:(Ri h H).get? b = none:=PySem.W.hideAll_none (trk h H) hm
  rw [z] at e; cases e
end L2
namespace L2
open PySem PySem.Spec PyProof.Rows
structure Mod (K:PySem.W.Frag) (mg:Str->Option Value) (base:Heap):Prop where
 kin:K.In base
 glob:base.Ns mainGlobals mg
 blt:∃ mb,base.Ns builtinsNs mb/\∀ x:Str,x ≠ "__name__"->mb x = bootBuiltins x
 nolimit:base.NoLimit
structure Cx where
 prog:Program
 w:World
 K:PySem.W.Frag
 mg:Str->Option Value
 base:Heap
 A:Around
 N:List Str
 s₀:Shared
 H₀:Hp
 env:Env
 outer:List Env
 stack:List Env
 ex:List Addr
 fn:Str->Bool
 calm:Bool
 pn:List (Addr × Obj)
 xe:Value->Shared->Prop
def frs (l:List Env):List Addr:=l.filterMap (·.frame)
abbrev Cx.fs (X:Cx):List Addr:=frs X.outer
def Vis (sc:Scope) (x:Str):Prop:=sc.names.lookup x = some .local\/sc.names.lookup x = some .cell\/sc.names.lookup x = some .free
def Loc (sc:Scope) (x:Str):Prop:=sc.names.lookup x = some .local\/sc.names.lookup x = some .cell
def Ak0 (env:Env) (h:Heap) (m:Str->Option Value) (x:Str) (u:Value):Prop :=
 (env.kindOf x = some .local/\m x = some u)\/((env.kindOf x = some .cell\/env.kindOf x = some .free)/\∃ c,env.cells.lookup x = some c/\h.IsCell c (some u))
structure Cx.Ok (X:Cx):Prop where
 mod:Mod X.K X.mg X.base
 kind:X.env.scope.kind = .function
 glob:X.env.globals = mainGlobals
 blt:X.env.builtins = builtinsNs
 above:X.s₀.heap.objs.size <= X.env.locals
 inj:∀ x y c,X.env.cells.lookup x = some c->X.env.cells.lookup y = some c->x = y
 has:∀ x,(X.env.kindOf x = some .cell\/X.env.kindOf x = some .free)->∃ c,X.env.cells.lookup x = some c
 cab:∀ x c,X.fn x = true->X.env.cells.lookup x = some c->X.s₀.heap.objs.size <= c
 hd:X.calm = true->X.A.handled = none
 frames:X.A.frames = some X.stack
 stk:X.stack = X.outer\/(X.stack = X.env :: X.outer/\X.env.frame = some X.env.locals)
 exf:∀ b ∈ X.ex,b ≠ X.env.locals/\∀ x c,X.env.cells.lookup x = some c->c ≠ b
 bs:∀ b o,X.base.get? b = some o->X.s₀.heap.get? b = some o/\X.H₀ b = none
 bsz:X.base.objs.size <= X.s₀.heap.objs.size
 noex:∀ b o,X.base.get? b = some o->b ∉ X.ex
 exfs:∀ b ∈ X.ex,b ∉ X.fs
 funs:X.s₀.heap.FunFrames X.base X.outer
 frf:∀ b ∈ X.fs,X.H₀ b = none
structure Inv (X:Cx) (pins:List (Addr × Obj)) (σ:List (Option V)) (H:Hp) (s:Shared):Prop where
 ok:X.Ok
 os:s.os = X.s₀.os
 bare:AllBare s.gens
 base:Un X.fs X.ex X.H₀ H X.s₀.heap s.heap
 loc:∃ m,s.heap.Ns X.env.locals m/\∀ (i:Nat) (x:Str) (v:V),X.N[i]? = some x->σ[i]? = some (some v)->Vis X.env.scope x->∃ u,RelV v u/\Ak0 X.env s.heap m x u
 cell:∀ x c,X.env.cells.lookup x = some c->∃ v,s.heap.IsCell c v
 free:H X.env.locals = none
 freeC:∀ x c,X.env.cells.lookup x = some c->H c = none
 pin:∀ p ∈ X.pn ++ pins,s.heap.get? p.1 = some p.2/\H p.1 = none/\p.1 ≠ X.env.locals/\p.1 ∉ X.fs/\∀ v,p.2.data ≠ .cell v
 hok:HOk X.prog X.w H s.heap
 len:σ.length = X.N.length
section
variable {X:Cx} {pins:List (Addr × Obj)} {σ:List (Option V)} {H H':Hp} {s:Shared} {h':Heap}
theorem Cx.Ok.nofr (ok:X.Ok) {b:Addr} {o:Obj} (e:X.base.get? b = some o):b ∉ X.fs:=fun hb=>by
 have:=(ok.funs.mem hb).1
 rw [e] at this; cases this
theorem Inv.bs (I:Inv X pins σ H s):∀ b o,X.base.get? b = some o->s.heap.get? b = some o/\H b = none:=fun b o e =>
 ⟨I.base.keep b o (I.ok.bs b o e).1 (I.ok.bs b o e).2 (I.ok.nofr e) (I.ok.noex b o e),I.base.free b o (I.ok.bs b o e).1 (I.ok.bs b o e).2 (I.ok.noex b o e)⟩
theorem Inv.bk (I:Inv X pins σ H s):∀ b o,X.base.get? b = some o->s.heap.get? b = some o:=fun b o e=>(I.bs b o e).1
theorem Inv.mod (I:Inv X pins σ H s):Mod X.K X.mg X.base:=I.ok.mod
theorem Inv.kIn (I:Inv X pins σ H s):X.K.In s.heap:=I.ok.mod.kin.keeps I.bk
theorem Inv.lt (I:Inv X pins σ H s):X.env.locals < s.heap.objs.size:=let ⟨_,hn,_⟩:=I.loc; hn.lt
theorem Inv.sz (I:Inv X pins σ H s):X.s₀.heap.objs.size <= s.heap.objs.size:=Nat.le_trans I.ok.above (Nat.le_of_lt I.lt)
theorem Inv.nofs (I:Inv X pins σ H s) {a:Addr} (h:s.heap.objs.size <= a):a ∉ X.fs:=fun hb=>by
 obtain ⟨_,o,ho,_⟩:=I.ok.funs.mem hb
 exact absurd (Nat.lt_of_lt_of_le (Heap.lt_size ho) (Nat.le_trans I.sz h)) (Nat.lt_irrefl _)
theorem Inv.cne (I:Inv X pins σ H s):∀ x c,X.env.cells.lookup x = some c->c ≠ X.env.locals:=fun x c e z=>by
 obtain ⟨v,o,ho,hd⟩:=I.cell x c e
 obtain ⟨m,⟨o',es,ep,ho',hd',_⟩,_⟩:=I.loc
 rw [z,ho'] at ho; cases ho; rw [hd'] at hd; cases hd
theorem Inv.funs (I:Inv X pins σ H s):s.heap.FunFrames X.base X.outer:=by
 have all:∀ (l:List Env),(∀ b ∈ frs l,b ∈ X.fs)->X.s₀.heap.FunFrames X.base l->s.heap.FunFrames X.base l:=by
  intro l
  induction l with
  | nil=>intro _ _; trivial
  | cons env r ih =>
   intro hs hl
   obtain ⟨hk,⟨L,o,hf,hn,ho,hd⟩,hr⟩:=hl
   have hL:L ∈ X.fs:=hs L (by unfold frs; rw [List.filterMap_cons,hf]; exact List.mem_cons_self)
   obtain ⟨sl,e⟩:=I.base.slot L o ho (I.ok.frf L hL) hL fun z=>I.ok.exfs L z hL
   exact ⟨hk,⟨L,_,hf,hn,e,hd⟩,ih (fun b hb=>hs b (by unfold frs; rw [List.filterMap_cons,hf]; exact List.mem_cons_of_mem _ hb)) hr⟩
 exact all X.outer (fun _ hb=>hb) I.ok.funs
theorem Inv.stack (I:Inv X pins σ H s):s.heap.FunFrames X.base X.stack:=by
 rcases I.ok.stk with e | ⟨e,hf⟩
 ·rw [e]; exact I.funs
 ·rw [e]
  obtain ⟨m,hn,_⟩:=I.loc
  refine .cons (by rw [I.ok.kind]; decide) hf hn ?_ I.funs
  exact Heap.get?_none_of_le (Nat.le_trans I.ok.bsz I.ok.above)
theorem Inv.stkSub (I:Inv X pins σ H s):∀ b ∈ frs X.stack,b ∈ X.env.locals :: X.fs:=fun b hb=>by
 rcases I.ok.stk with e | ⟨e,hf⟩
 ·rw [e] at hb; exact List.mem_cons_of_mem _ hb
 ·rw [e] at hb
  unfold frs at hb
  rw [List.filterMap_cons,hf] at hb
  exact hb
theorem Inv.stkFree (I:Inv X pins σ H s):∀ b ∈ frs X.stack,H b = none:=fun b hb=>by
 rcases List.mem_cons.mp (I.stkSub b hb) with e | hb
 ·rw [e]; exact I.free
 ·obtain ⟨_,o,ho,_⟩:=I.ok.funs.mem hb
  exact I.base.free b o ho (I.ok.frf b hb) fun z=>I.ok.exfs b z hb
theorem Inv.step {g':Array GenState} {t':Nat} {d':Drawn} {ch:List Addr} (I:Inv X pins σ H s)
  (hch:∀ b ∈ ch,(b ∈ X.ex\/X.s₀.heap.objs.size <= b)/\b ≠ X.env.locals/\(∀ x c,X.env.cells.lookup x = some c->c ≠ b)/\∀ p ∈ X.pn ++ pins,p.1 ≠ b)
  (keep:∀ b o,b ≠ X.env.locals->b ∉ X.fs->b ∉ ch->s.heap.get? b = some o->H b = none->h'.get? b = some o)
  (slot:∀ b o,b ≠ X.env.locals->b ∈ X.fs->b ∉ ch->s.heap.get? b = some o->H b = none->∃ sl,h'.get? b = some { o with slots:=sl }) (free:∀ b o,b ∉ ch->s.heap.get? b = some o->H b = none->H' b = none)
  (there:∀ b o,b ∉ ch->s.heap.get? b = some o->∃ o',h'.get? b = some o')
  (tups:∀ b xs,H b = some (.tup xs)->H' b = some (.tup xs)) (frzs:∀ b o u,H b = some (.frz o u)->H' b = some (.frz o u)) (tbls:∀ b ps,H b = some (.tbl ps)->∃ more,H' b = some (.tbl (ps ++ more)))
  (ns:∀ m,s.heap.Ns X.env.locals m->h'.Ns X.env.locals m) (hok:HOk X.prog X.w H' h') (hg:AllBare g') :
  Inv X pins σ H' { s with heap:=h',gens:=g',drawn:=d',toks:=t' }:=by
 have neL:∀ b o,X.s₀.heap.get? b = some o->b ≠ X.env.locals:=fun b o e=>Nat.ne_of_lt (Nat.lt_of_lt_of_le (Heap.lt_size e) I.ok.above)
 have neC:∀ b o,X.s₀.heap.get? b = some o->b ∉ X.ex->b ∉ ch:=fun b o e hx hb=>by
  rcases (hch b hb).1 with z | z
  ·exact hx z
  ·exact absurd (Nat.lt_of_lt_of_le (Heap.lt_size e) z) (Nat.lt_irrefl _)
 have cellK:∀ x c,X.env.cells.lookup x = some c->∀ v,s.heap.IsCell c v->h'.IsCell c v:=fun x c e v ⟨o,ho,hd⟩=>by
  have nch:c ∉ ch:=fun z=>(hch c z).2.2.1 x c e rfl
  by_cases hc:c ∈ X.fs
  ·obtain ⟨sl,q⟩:=slot c o (I.cne x c e) hc nch ho (I.freeC x c e)
   exact ⟨_,q,hd⟩
  ·exact ⟨o,keep c o (I.cne x c e) hc nch ho (I.freeC x c e),hd⟩
 refine ⟨I.ok,I.os,hg,⟨fun b o e n hb hx=>?_,fun b o e n hb hx=>?_,fun b o e n hx=>?_,fun b o e hx=>?_,fun b xs e=>tups b xs (I.base.tups b xs e),fun b o xs e=>frzs b o xs (I.base.frzs b o xs e),fun b ps e=>?_⟩,?_,fun x c e=>?_,?_,fun x c e=>?_,fun p hp=>?_,hok,I.len⟩
 ·exact keep b o (neL b o e) hb (neC b o e hx) (I.base.keep b o e n hb hx) (I.base.free b o e n hx)
 ·obtain ⟨sl,e1⟩:=I.base.slot b o e n hb hx
  obtain ⟨sl',e2⟩:=slot b _ (neL b o e) hb (neC b o e hx) e1 (I.base.free b o e n hx)
  exact ⟨sl',e2⟩
 ·obtain ⟨o',e1⟩:=I.base.there b o e hx
  exact free b o' (neC b o e hx) e1 (I.base.free b o e n hx)
 ·obtain ⟨o',e1⟩:=I.base.there b o e hx
  exact there b o' (neC b o e hx) e1
 ·obtain ⟨m1,e1⟩:=I.base.tbls b ps e
  obtain ⟨m2,e2⟩:=tbls b _ e1
  exact ⟨m1 ++ m2,by rw [e2,Array.append_assoc]⟩
 ·obtain ⟨m,hn,hl⟩:=I.loc
  refine ⟨m,ns m hn,fun i x v e1 e2 e3=>?_⟩
  obtain ⟨u,r,l⟩:=hl i x v e1 e2 e3
  refine ⟨u,r,?_⟩
  rcases l with l | ⟨k,c,e,z⟩
  ·exact .inl l
  ·exact .inr ⟨k,c,e,cellK x c e _ z⟩
 ·obtain ⟨v,z⟩:=I.cell x c e
  exact ⟨v,cellK x c e v z⟩
 ·obtain ⟨m,⟨o,_,_,ho,_⟩,_⟩:=I.loc
  exact free _ o (fun z=>(hch _ z).2.1 rfl) ho I.free
 ·obtain ⟨v,o,ho,hd⟩:=I.cell x c e
  exact free c o (fun z=>(hch c z).2.2.1 x c e rfl) ho (I.freeC x c e)
 ·obtain ⟨e,n,ne,nf,d⟩:=I.pin p hp
  have nch:p.1 ∉ ch:=fun z=>(hch p.1 z).2.2.2 p hp rfl
  exact ⟨keep p.1 p.2 ne nf nch e n,free p.1 p.2 nch e n,ne,nf,d⟩
theorem Inv.un {t':Nat} (I:Inv X pins σ H s) (u:Un X.fs [] H H' s.heap h') (hok:HOk X.prog X.w H' h'):Inv X pins σ H' { s with heap:=h',toks:=t' }:=by
 obtain ⟨m,⟨o,es,ep,ho,r⟩,_⟩:=id I.loc
 obtain ⟨sl,hL⟩:=u.any ho I.free (by simp)
 exact I.step (g':=s.gens) (d':=s.drawn) (ch:=[]) (fun _ z=>nomatch z) (fun b o _ hb _ e n=>u.keep b o e n hb (by simp)) (fun b o _ hb _ e n=>u.slot b o e n hb (by simp)) (fun b o _ e n=>u.free b o e n (by simp)) (fun b o _ e=>u.there b o e (by simp)) u.tups u.frzs u.tbls (fun m' hm=>by
  obtain ⟨o',es',ep',ho',r'⟩:=hm
  rw [ho] at ho'; cases ho'
  exact ⟨_,es',ep',hL,r'⟩) hok I.bare
theorem Inv.call {g':Array GenState} {t':Nat} {d':Drawn} {ch:List Addr} (I:Inv X pins σ H s) (u:Un (frs X.stack) ch H H' s.heap h') (hok:HOk X.prog X.w H' h') (hg:AllBare g')
  (hch:∀ b ∈ ch,(b ∈ X.ex\/X.s₀.heap.objs.size <= b)/\b ≠ X.env.locals/\(∀ x c,X.env.cells.lookup x = some c->c ≠ b)/\∀ p ∈ X.pn ++ pins,p.1 ≠ b) :
  Inv X pins σ H' { s with heap:=h',gens:=g',drawn:=d',toks:=t' }:=by
 obtain ⟨m,⟨o,es,ep,ho,r⟩,_⟩:=id I.loc
 obtain ⟨sl,hL⟩:=u.any ho I.free fun z=>(hch _ z).2.1 rfl
 exact I.step (ch:=ch) hch (fun b o hL hb hc e n=>u.keep b o e n (fun z=>(List.mem_cons.mp (I.stkSub b z)).elim hL hb) hc) (fun b o _ _ hc e n=>u.any e n hc) (fun b o hc e n=>u.free b o e n hc) (fun b o hc e=>u.there b o e hc) u.tups u.frzs u.tbls (fun m' hm=>by
  obtain ⟨o',es',ep',ho',r'⟩:=hm
  rw [ho] at ho'; cases ho'
  exact ⟨_,es',ep',hL,r'⟩) hok hg
theorem Inv.turned {t':Nat} {it:Addr} (I:Inv X pins σ H s) (k:∀ b o,b ≠ it->s.heap.get? b = some o->h'.get? b = some o) (hn:H it = none) (hL:it ≠ X.env.locals)
  (h1:it ∈ X.ex\/X.s₀.heap.objs.size <= it) (h2:∀ x c,X.env.cells.lookup x = some c->c ≠ it) (h3:∀ p ∈ X.pn ++ pins,p.1 ≠ it):Inv X pins σ H { s with heap:=h',toks:=t' }:=by
 have nit:∀ b u,H b = some u->b ≠ it:=fun b u e z=>by rw [z,hn] at e; cases e
 refine I.step (g':=s.gens) (d':=s.drawn) (ch:=[it]) (fun b hb=>?_) (fun b o _ _ hc e _=>k b o (fun z=>hc (by simp [z])) e) (fun b o _ _ hc e _=>⟨o.slots,k b o (fun z=>hc (by simp [z])) e⟩) (fun _ _ _ _ n=>n)
  (fun b o hc e=>⟨o,k b o (fun z=>hc (by simp [z])) e⟩) (fun _ _ e=>e) (fun _ _ _ e=>e) (fun b ps e=>⟨#[],by rw [e]; simp⟩) (fun m hm=>?_) (fun b u e=>?_) I.bare
 ·have e:b = it:=by simpa using hb
  subst e
  exact ⟨h1,hL,h2,h3⟩
 ·obtain ⟨o,es,ep,ho,r⟩:=hm
  exact ⟨o,es,ep,k _ o (Ne.symm hL) ho,r⟩
 ·refine (I.hok b u e).stay (fun c v hc q=>k c v ?_ q) (fun _ q=>q) fun _ _ q=>q
  rcases hc with z | z
  ·rw [z]; exact nit b u e
  ·exact nit c _ z
theorem Inv.tok (I:Inv X pins σ H s) (t:Nat):Inv X pins σ H { s with toks:=t }:=I.un (h':=s.heap) (t':=t) Un.refl I.hok
theorem Inv.kept {t':Nat} (I:Inv X pins σ H s) (k:∀ b u,s.heap.get? b = some u->h'.get? b = some u):Inv X pins σ H { s with heap:=h',toks:=t' }:=I.un (Un.kept k) (I.hok.kept k)
theorem Inv.laid {a:Addr} {o:HO} {t':Nat} (I:Inv X pins σ H s) (k:∀ b u,s.heap.get? b = some u->h'.get? b = some u) (hp:s.heap.objs.size <= a) (new:ObjOk X.prog X.w (upd H a o) h' a o) :
  Inv X pins σ (upd H a o) { s with heap:=h',toks:=t' }:=I.un (Un.laid k hp (I.hok.fresh hp)) (I.hok.laid k hp new)
theorem Inv.write {x e:Addr} {o:HO} {t':Nat} (I:Inv X pins σ H s) (mu:Mut (H x)) (he:e = x\/H e = some (.own x)) (k:∀ b u,b ≠ e->s.heap.get? b = some u->h'.get? b = some u) (heo:∃ u,h'.get? e = some u)
  (new:ObjOk X.prog X.w (upd H x o) h' x o):Inv X pins σ (upd H x o) { s with heap:=h',toks:=t' }:=I.un (Un.write mu he k heo) (I.hok.write mu he k heo new)
theorem Inv.weak {σ':List (Option V)} (I:Inv X pins σ H s) (hl:σ'.length = σ.length) (w:∀ (i:Nat) v,σ'[i]? = some (some v)->σ[i]? = some (some v)):Inv X pins σ' H s :=
 ⟨I.ok,I.os,I.bare,I.base,let ⟨m,hn,hl'⟩:=I.loc; ⟨m,hn,fun i x v e1 e2 e3=>hl' i x v e1 (w i v e2) e3⟩,I.cell,I.free,I.freeC,I.pin,I.hok,hl.trans I.len⟩
theorem Inv.pins_of {pins':List (Addr × Obj)} (I:Inv X pins σ H s) (h:∀ p ∈ pins',s.heap.get? p.1 = some p.2/\H p.1 = none/\p.1 ≠ X.env.locals/\p.1 ∉ X.fs/\∀ v,p.2.data ≠ .cell v):Inv X pins' σ H s :=
 ⟨I.ok,I.os,I.bare,I.base,I.loc,I.cell,I.free,I.freeC,fun p hp=>(List.mem_append.mp hp).elim (fun z=>I.pin p (List.mem_append_left _ z)) (h p),I.hok,I.len⟩
theorem Ja {N:List Str} (hN:N.Nodup) {i j:Nat} {x:Str} (a:N[i]? = some x) (b:N[j]? = some x):i = j:=by
 obtain ⟨h1,e1⟩:=List.getElem?_eq_some_iff.mp a
 obtain ⟨h2,e2⟩:=List.getElem?_eq_some_iff.mp b
 exact (List.getElem_inj hN).mp (e1.trans e2.symm)
theorem Wo {M:Model} {A:Around} {E:Value->Shared->Prop} {i:Nat} {x:Str} {v:V} {u:Value} {Q:Unit->Shared->Prop} (I:Inv X pins σ H s) (hN:X.N.Nodup) (hi:X.N[i]? = some x) (hx:Loc X.env.scope x) (r:RelV v u)
  (h:∀ s',Inv X pins (σ.set i (some v)) H s'->(∃ a,Heap.SameBut a s.heap s'.heap/\(a = X.env.locals\/X.env.cells.lookup x = some a))->Q () s') (hf:X.fn x = true\/X.env.scope.names.lookup x = some .local:=by first | exact .inl rfl | exact .inr rfl | assumption):wpAny M A (storeName X.env x u) Q E s:=by
 obtain ⟨m,hn,hl⟩:=id I.loc
 have hcls:(X.env.scope.kind == .class || (X.env.scope.kind == .module && X.env.locals != X.env.globals)) = false:=by rw [I.ok.kind]; rfl
 have hiσ:i < σ.length:=by rw [I.len]; exact (List.getElem?_eq_some_iff.mp hi).1
 have cne:=I.cne
 have tracked:∀ {a:Addr} {h':Heap},(∃ o,s.heap.get? a = some o/\H a = none)->Heap.SameBut a s.heap h'->HOk X.prog X.w H h':=fun {a h'} ha hs b ob e=>by
  obtain ⟨_,_,hfree⟩:=ha
  refine (I.hok b ob e).stay (fun c w' hc q=>(hs.2 c ?_).trans q) (fun _ q=>q) fun _ _ q=>q
  rintro rfl
  rcases hc with rfl | hc
  ·rw [hfree] at e; cases e
  ·rw [hfree] at hc; cases hc
 rcases hx with hk | hk
 ·refine wpAny_storeName_local hk hn (fun h' hn' hs=>?_) hcls
  obtain ⟨oL,_,_,hoL,_⟩:=id hn
  refine h _ ⟨I.ok,I.os,I.bare,⟨fun b o e n hb hx=>?_,fun b o e n hb hx=>?_,I.base.free,fun b o e hx=>?_,I.base.tups,I.base.frzs,I.base.tbls⟩,⟨_,hn',fun j y v' e1 e2 e3=>?_⟩,fun y c e=>?_,I.free,I.freeC,fun p hp=>?_,tracked ⟨oL,hoL,I.free⟩ hs,by simpa using I.len⟩ ⟨_,hs,.inl rfl⟩
  ·exact (hs.2 b (Nat.ne_of_lt (Nat.lt_of_lt_of_le (Heap.lt_size e) I.ok.above))).trans (I.base.keep b o e n hb hx)
  ·obtain ⟨sl,e1⟩:=I.base.slot b o e n hb hx
   exact ⟨sl,(hs.2 b (Nat.ne_of_lt (Nat.lt_of_lt_of_le (Heap.lt_size e) I.ok.above))).trans e1⟩
  ·obtain ⟨o',e1⟩:=I.base.there b o e hx
   exact ⟨o',(hs.2 b (Nat.ne_of_lt (Nat.lt_of_lt_of_le (Heap.lt_size e) I.ok.above))).trans e1⟩
  ·by_cases hj:j = i
   ·subst hj
    rw [hi] at e1; cases e1
    rw [List.getElem?_set_self hiσ] at e2
    cases e2
    exact ⟨u,r,.inl ⟨hk,by simp⟩⟩
   ·rw [List.getElem?_set_ne (Ne.symm hj)] at e2
    obtain ⟨u',r',q⟩:=hl j y v' e1 e2 e3
    refine ⟨u',r',?_⟩
    rcases q with ⟨k,e⟩ | ⟨k,c,e,z⟩
    ·refine .inl ⟨k,?_⟩
     have:y ≠ x:=fun e=>hj (Ja hN e1 (e ▸ hi))
     simp [this,e]
    ·exact .inr ⟨k,c,e,z.sameBut hs (cne y c e)⟩
  ·obtain ⟨w',z⟩:=I.cell y c e
   exact ⟨w',z.sameBut hs (cne y c e)⟩
  ·obtain ⟨e,n,ne,nf,d⟩:=I.pin p hp
   exact ⟨(hs.2 p.1 ne).trans e,n,ne,nf,d⟩
 ·have hfn:X.fn x = true:=by
   rcases hf with z | z
   ·exact z
   ·rw [z] at hk; cases hk
  obtain ⟨c,hc⟩:=I.ok.has x (.inl hk)
  obtain ⟨w',z⟩:=I.cell x c hc
  refine wpAny_storeName_cell I.ok.kind hk hc z (fun h' hc' hs=>?_)
  obtain ⟨oc,hoc,hocd⟩:=id z
  refine h { s with heap:=h' } ⟨I.ok,I.os,I.bare,⟨fun b o e n hb hx=>?_,fun b o e n hb hx=>?_,I.base.free,fun b o e hx=>?_,I.base.tups,I.base.frzs,I.base.tbls⟩,⟨m,hn.sameBut hs (Ne.symm (cne x c hc)),fun j y v' e1 e2 e3=>?_⟩,fun y c' e=>?_,I.free,I.freeC,fun p hp=>?_,tracked ⟨oc,hoc,I.freeC x c hc⟩ hs,by simpa using I.len⟩ ⟨c,hs,.inr hc⟩
  ·exact (hs.2 b (Nat.ne_of_lt (Nat.lt_of_lt_of_le (Heap.lt_size e) (I.ok.cab x c hfn hc)))).trans (I.base.keep b o e n hb hx)
  ·obtain ⟨sl,e1⟩:=I.base.slot b o e n hb hx
   exact ⟨sl,(hs.2 b (Nat.ne_of_lt (Nat.lt_of_lt_of_le (Heap.lt_size e) (I.ok.cab x c hfn hc)))).trans e1⟩
  ·obtain ⟨o',e1⟩:=I.base.there b o e hx
   exact ⟨o',(hs.2 b (Nat.ne_of_lt (Nat.lt_of_lt_of_le (Heap.lt_size e) (I.ok.cab x c hfn hc)))).trans e1⟩
  ·by_cases hj:j = i
   ·subst hj
    rw [hi] at e1; cases e1
    rw [List.getElem?_set_self hiσ] at e2
    cases e2
    exact ⟨u,r,.inr ⟨.inl hk,c,hc,hc'⟩⟩
   ·rw [List.getElem?_set_ne (Ne.symm hj)] at e2
    obtain ⟨u',r',q⟩:=hl j y v' e1 e2 e3
    refine ⟨u',r',?_⟩
    rcases q with q | ⟨k,c',e,z'⟩
    ·exact .inl q
    ·refine .inr ⟨k,c',e,z'.sameBut hs ?_⟩
     rintro rfl
     exact hj (Ja hN e1 (I.ok.inj _ _ _ e hc ▸ hi))
  ·by_cases hcc:c' = c
   ·subst hcc; exact ⟨_,hc'⟩
   ·obtain ⟨w2,z2⟩:=I.cell y c' e
    exact ⟨w2,z2.sameBut hs hcc⟩
  ·obtain ⟨e,n,ne,nf,d⟩:=I.pin p hp
   refine ⟨(hs.2 p.1 ?_).trans e,n,ne,nf,d⟩
   intro q
   rw [q,hoc] at e
   have q':oc = p.2:=Option.some.inj e
   exact d w' (by rw [<- q']; exact hocd)
theorem Ty {M:Model} {A:Around} {E:Value->Shared->Prop} {i:Nat} {x:Str} {v:V} {u:Value} {Q:Unit->Shared->Prop} (I:Inv X pins σ H s) (hN:X.N.Nodup) (hi:X.N[i]? = some x) (hx:Loc X.env.scope x) (r:RelV v u)
  (h:∀ s',Inv X pins (σ.set i (some v)) H s'->Q () s') (hf:X.fn x = true\/X.env.scope.names.lookup x = some .local:=by first | exact .inl rfl | exact .inr rfl | assumption):wpAny M A (storeName X.env x u) Q E s :=
 Wo I hN hi hx r (fun s' I' _=>h s' I') hf
end
abbrev XK:=Value->Option Addr->Hp->Prop
abbrev St:=List (Option V)
abbrev VK:=V->Hp->Prop
abbrev TE:=St->Hp->VK->Prop
abbrev TT:=St->Hp->(Bool->Hp->Prop)->Prop
abbrev TA:=St->Hp->(List V->Hp->Prop)->Prop
structure Ends where
 nx:St->Hp->Prop
 rt:VK
 bk:St->Hp->Prop:=fun _ _=>False
 ct:St->Hp->Prop:=fun _ _=>False
abbrev TS:=Ends->St->Hp->Prop
def EP (X:Cx) (pins:List (Addr × Obj)) (σ:St) (Q:VK) (u:Value) (s':Shared):Prop:=∃ v H',Inv X pins σ H' s'/\RelV v u/\Q v H'
def TP (X:Cx) (pins:List (Addr × Obj)) (σ:St) (Q:Bool->Hp->Prop) (b:Bool) (s':Shared):Prop:=∃ H',Inv X pins σ H' s'/\Q b H'
def AP (X:Cx) (pins:List (Addr × Obj)) (σ:St) (Q:List V->Hp->Prop) (us:List Value) (s':Shared):Prop:=∃ vs H',Inv X pins σ H' s'/\Vals vs us/\Q vs H'
def SP (X:Cx) (pins:List (Addr × Obj)) (D:Ends) (f:Flow) (s':Shared):Prop :=
 match f with
 | .next=>∃ σ' H',Inv X pins σ' H' s'/\D.nx σ' H'
 | .brk=>∃ σ' H',Inv X pins σ' H' s'/\D.bk σ' H'
 | .cont=>∃ σ' H',Inv X pins σ' H' s'/\D.ct σ' H'
 | .ret u=>∃ v σ' H',Inv X pins σ' H' s'/\RelV v u/\D.rt v H'
def PE (X:Cx) (e:Expr) (t:TE):Prop :=
 ∀ (pins:List (Addr × Obj)) (s:Shared) (σ:St) (H:Hp) (Q:VK),Inv X pins σ H s->t σ H Q->wpAny (model X.prog X.w) X.A (eval e X.env) (EP X pins σ Q) X.xe s
def PT (X:Cx) (e:Expr) (t:TT):Prop :=
 ∀ (pins:List (Addr × Obj)) (s:Shared) (σ:St) (H:Hp) (Q:Bool->Hp->Prop),Inv X pins σ H s->t σ H Q->wpAny (model X.prog X.w) X.A (isTrue e X.env (eval e X.env)) (TP X pins σ Q) X.xe s
def PW (X:Cx) (e:Expr) (t:TT):Prop :=
 ∀ (whole:Sem Value) (pins:List (Addr × Obj)) (s:Shared) (σ:St) (H:Hp) (Q:Bool->Hp->Prop),Inv X pins σ H s->t σ H Q->wpAny (model X.prog X.w) X.A (isTrue e X.env whole) (TP X pins σ Q) X.xe s
theorem PW.pt {X:Cx} {e:Expr} {t:TT} (h:PW X e t):PT X e t:=h _
def PA (X:Cx) (es:List Expr) (t:TA):Prop :=
 ∀ (pos:Pos) (pins:List (Addr × Obj)) (s:Shared) (σ:St) (H:Hp) (Q:List V->Hp->Prop),Inv X pins σ H s->t σ H Q->wpAny (model X.prog X.w) X.A (spliced (backTo pos (starEach es X.env))) (AP X pins σ Q) X.xe s
def PS (X:Cx) (st:Stmt) (t:TS):Prop :=
 ∀ (pins:List (Addr × Obj)) (s:Shared) (σ:St) (H:Hp) (D:Ends),Inv X pins σ H s->t D σ H->wpAny (model X.prog X.w) X.A (exec st X.env) (SP X pins D) X.xe s
def PSs (X:Cx) (st:List Stmt) (t:TS):Prop :=
 ∀ (pins:List (Addr × Obj)) (s:Shared) (σ:St) (H:Hp) (D:Ends),Inv X pins σ H s->t D σ H->wpAny (model X.prog X.w) X.A (execs st X.env) (SP X pins D) X.xe s
theorem thn {α:Type} {t:Sem α} {Q Q':α->Shared->Prop} {M:Model} {A:Around} {E:Value->Shared->Prop} {s:Shared} (h:wpAny M A t Q E s) (hQ:∀ a s,Q a s->Q' a s):wpAny M A t Q' E s:=wpAny_mono h hQ fun _ _ x=>x
end L2
namespace L2
open PySem PySem.Spec PyProof.Rows
section
variable {X:Cx}
def Gy (i:Nat):TE:=fun σ H Q=>∃ v,σ[i]? = some (some v)/\Q v H
def tC (v:V):TE:=fun _ H Q=>Q v H
theorem Ahz {i:Nat} {x:Str} {pos:Pos} (hN:X.N[i]? = some x) (hv:Vis X.env.scope x) (hd:(x == ("__debug__" : Str)) = false:=by decide) (hcd:(x == ("__classdict__" : Str)) = false:=by decide):PE X (.Name x pos) (Gy i):=by
 intro pins s σ H Q I h
 obtain ⟨v,e,h⟩:=h
 obtain ⟨m,hn,hl⟩:=I.loc
 obtain ⟨u,r,l⟩:=hl i x v hN e hv
 have fin:EP X pins σ Q u s:=⟨v,H,I,r,h⟩
 rcases l with ⟨hk,hm⟩ | ⟨hk,c,hc,hcell⟩
 ·exact wpAny_Name (wpAny_loadName_local I.ok.kind hk hn hm fin) hd
 ·rcases hk with hk | hk
  ·exact wpAny_Name (wpAny_loadName_cell I.ok.kind hk hc hcell fin) hd
  ·exact wpAny_Name (wpAny_loadName_free I.ok.kind hk hc hcell fin hcd) hd
theorem Bf {i j pos}:PE X (.Constant (.int i) j pos) (tC (.int i)):=fun _ _ _ H _ I h=>wpAny_Constant_int ⟨.int i,H,I.tok _,⟨_,rfl⟩,h⟩
theorem Qd {b j pos}:PE X (.Constant (.bool b) j pos) (tC (.bl b)):=fun _ _ _ H _ I h=>Constant_bool ⟨.bl b,H,I,rfl,h⟩
theorem Bu {x j pos}:PE X (.Constant (.str x) j pos) (tC (.str x)):=fun _ _ _ H _ I h=>Calls.Constant_str ⟨.str x,H,I.tok _,⟨_,rfl⟩,h⟩
def Gl (X:Cx) (x:Str):Prop:=X.env.kindOf x = some .globalImplicit
theorem Ng {E:Value->Shared->Prop} {pins:List (Addr × Obj)} {s:Shared} {σ:St} {H:Hp} {x:Str} {u:Value} {pos:Pos} {Q:Value->Shared->Prop} (I:Inv X pins σ H s) (hg:Gl X x) (hm:X.mg x = some u) (h:Q u s)
  (hd:(x == ("__debug__" : Str)) = false:=by decide):wpAny (model X.prog X.w) X.A (eval (.Name x pos) X.env) Q E s :=
 Calls.Name_function_global I.ok.kind hg (Calls.loadGlobal_global (by rw [I.ok.glob]; exact I.mod.glob.keeps I.bk) hm h) hd
theorem No {E:Value->Shared->Prop} {pins:List (Addr × Obj)} {s:Shared} {σ:St} {H:Hp} {x:Str} {u:Value} {pos:Pos} {Q:Value->Shared->Prop} (I:Inv X pins σ H s) (hg:Gl X x) (hm:X.mg x = none) (hv:bootBuiltins x = some u) (h:Q u s)
  (hn:x ≠ "__name__":=by decide) (hd:(x == ("__debug__" : Str)) = false:=by decide):wpAny (model X.prog X.w) X.A (eval (.Name x pos) X.env) Q E s:=by
 obtain ⟨mb,h1,h2⟩:=I.mod.blt
 exact Calls.Name_function_global I.ok.kind hg (Calls.loadGlobal_builtin (by rw [I.ok.glob]; exact I.mod.glob.keeps I.bk) hm (by rw [I.ok.blt]; exact h1.keeps I.bk) ((h2 x hn).trans hv) h) hd
theorem Ji {x:Str} {v:V} {u:Value} {pos:Pos} (hg:Gl X x) (hm:X.mg x = some u) (r:RelV v u) (hd:(x == ("__debug__" : Str)) = false:=by decide):PE X (.Name x pos) (tC v) :=
 fun _ _ _ H _ I h=>Ng I hg hm ⟨v,H,I,r,h⟩ hd
theorem Nd {x:Str} {v:V} {u:Value} {pos:Pos} (hg:Gl X x) (hm:X.mg x = none) (hv:bootBuiltins x = some u) (r:RelV v u) (hn:x ≠ "__name__":=by decide) (hd:(x == ("__debug__" : Str)) = false:=by decide):PE X (.Name x pos) (tC v) :=
 fun _ _ _ H _ I h=>No I hg hm hv ⟨v,H,I,r,h⟩ hn hd
variable {a b:Expr} {ta tb:TE} {pos:Pos}
def PC (X:Cx) (op:CmpOp) (a b:Expr) (t:TE):Prop :=
 ∀ (pins:List (Addr × Obj)) (s:Shared) (σ:St) (H:Hp) (Q:VK),Inv X pins σ H s->t σ H Q ->
  wpAny (model X.prog X.w) X.A (eval a X.env) (fun v s₁=>wpAny (model X.prog X.w) X.A (eval b X.env) (fun u s₂=>wpAny (model X.prog X.w) X.A (compareOp op v u) (EP X pins σ Q) X.xe s₂) X.xe s₁) X.xe s
theorem Zx (b:Expr) {op:CmpOp} (h:op ≠ .In) (h2:op ≠ .NotIn):behindInMarks op b = false:=by
 have e1:(op == CmpOp.In) = false:=by cases op <;> first | rfl | exact absurd rfl h
 have e2:(op == CmpOp.NotIn) = false:=by cases op <;> first | rfl | exact absurd rfl h2
 cases b <;> simp [behindInMarks,e1,e2]
def AhI (ta:TE):TE:=fun σ H Q=>ta σ H fun x H1=>Q (.bl (decide (x = .non))) H1
theorem RelV.none_iff {x:V} {v:Value} (r:RelV x v):(v == Value.none) = decide (x = .non):=by
 cases x with
 | non=>cases r; rfl
 | bl _=>cases r; rfl
 | int _=>obtain ⟨t,rfl⟩:=r; rfl
 | str _=>obtain ⟨t,rfl⟩:=r; rfl
 | byt _=>obtain ⟨t,rfl⟩:=r; rfl
 | flt _=>obtain ⟨t,rfl⟩:=r; rfl
 | ref _=>cases r; rfl
 | ty _=>cases r; rfl
theorem Acy {j pos'} (ha:PE X a ta):PC X .Is a (.Constant .none j pos') (AhI ta):=by
 intro pins s σ H Q I h
 refine thn (ha pins s σ H _ I h) fun v s1 ⟨x,H1,I1,r1,q1⟩=>?_
 exact Constant_none (is_none_gen ⟨.bl _,H1,I1,by rw [r1.none_iff]; rfl,q1⟩)
def tB (t:TE):TT:=fun σ H Q=>t σ H fun x H1=>∃ c,x = .bl c/\Q c H1
theorem Vh {op:CmpOp} {t:TE} (h:PC X op a b t) (h1:behindInMarks op b = false:=by first | exact Zx _ (by decide) (by decide) | rfl):PE X (.Compare a [op] [b] pos) t:=fun pins s σ H Q I hw=>wpAny_Compare1 (h pins s σ H Q I hw) h1
theorem Rp {op:CmpOp} {t:TE} (h:PC X op a b t) (h1:behindInMarks op b = false:=by first | exact Zx _ (by decide) (by decide) | rfl):PT X (.Compare a [op] [b] pos) (tB t):=by
 intro pins s σ H Q I hw
 refine wpAny_isTrue_Compare1 (thn (h pins s σ H _ I hw) fun v s1 h1=>thn h1 fun u s2 h2=>thn h2 fun c s3 ⟨x,H1,I1,r1,q1⟩=>?_) h1
 obtain ⟨d,rfl,q⟩:=q1
 cases r1
 exact wpAny_truthy_bool ⟨H1,I1,q⟩
theorem Sn {e:Expr} {t:TE} (h:PE X e t) (he:∀ whole,isTrue e X.env whole = (do let v <- whole; standAt e.pos; holding [v] (truthy v)):=by intro _; rfl):PT X e (tB t):=by
 intro pins s σ H Q I hw
 refine isTrue_plain (thn (h pins s σ H _ I hw) fun v s1 ⟨x,H1,I1,r1,q1⟩=>?_) (he _)
 obtain ⟨d,rfl,q⟩:=q1
 cases r1
 exact wpAny_truthy_bool ⟨H1,I1,q⟩
variable {tA tB':TT} {rest:List Expr}
def AiN (t u:TT):TT:=fun σ H Q=>t σ H fun c H1=>if c = true then u σ H1 Q else Q false H1
def tOr (t u:TT):TT:=fun σ H Q=>t σ H fun c H1=>if c = true then Q true H1 else u σ H1 Q
def Aeg (t:TT):TT:=fun σ H Q=>t σ H fun c H1=>Q (!c) H1
theorem Vz (ha:PT X a tA):PW X (.BoolOp .And [a] pos) tA:=by
 intro wh pins s σ H Q I h
 refine isTrue_and (thn (ha pins s σ H Q I h) fun c s1 e=>?_)
 cases c with
 | true=>exact isTrue_and_nil e
 | false=>exact e
theorem Sb (ha:PT X a tA):PW X (.BoolOp .Or [a] pos) tA:=by
 intro wh pins s σ H Q I h
 refine isTrue_or (thn (ha pins s σ H Q I h) fun c s1 e=>?_)
 cases c with
 | false=>exact isTrue_or_nil e
 | true=>exact e
theorem Uf (ha:PT X a tA) (hb:PW X (.BoolOp .And (b :: rest) pos) tB'):PW X (.BoolOp .And (a :: b :: rest) pos) (AiN tA tB'):=by
 intro wh pins s σ H Q I h
 refine isTrue_and (thn (ha pins s σ H _ I h) fun c s1 ⟨H1,I1,q1⟩=>?_)
 cases c with
 | true=>exact hb wh pins s1 σ H1 Q I1 q1
 | false=>exact ⟨H1,I1,q1⟩
theorem Td (ha:PT X a tA) (hb:PW X (.BoolOp .Or (b :: rest) pos) tB'):PW X (.BoolOp .Or (a :: b :: rest) pos) (tOr tA tB'):=by
 intro wh pins s σ H Q I h
 refine isTrue_or (thn (ha pins s σ H _ I h) fun c s1 ⟨H1,I1,q1⟩=>?_)
 cases c with
 | true=>exact ⟨H1,I1,q1⟩
 | false=>exact hb wh pins s1 σ H1 Q I1 q1
theorem Ry (ha:PT X a tA):PT X (.UnaryOp .Not a pos) (Aeg tA):=by
 intro pins s σ H Q I h
 exact isTrue_not (ha pins s σ H (fun c H1=>Q (!c) H1) I h)
def AbJ (ta tb:TE):TE:=fun σ H Q=>ta σ H fun x H1=>∃ c,x = .bl c/\if c = true then tb σ H1 Q else Q (.bl false) H1
def AbG (ta:TE):TE:=fun σ H Q=>ta σ H fun x H1=>∃ c,x = .bl c/\Q (.bl (!c)) H1
theorem Ni {op} {t:TE} (h:PE X a t):PE X (.BoolOp op [a] pos) t:=fun pins s σ H Q I hw=>BoolOp_one (h pins s σ H Q I hw)
theorem Le (ha:PE X a ta) (hb:PE X (.BoolOp .And (b :: rest) pos) tb):PE X (.BoolOp .And (a :: b :: rest) pos) (AbJ ta tb):=by
 intro pins s σ H Q I h
 refine BoolOp_and (thn (ha pins s σ H _ I h) fun v s1 ⟨x,H1,I1,r1,q1⟩=>?_)
 obtain ⟨c,rfl,q1⟩:=q1
 cases r1
 refine wpAny_truthy_bool ?_
 cases c with
 | true=>exact hb pins s1 σ H1 Q I1 q1
 | false=>exact ⟨.bl false,H1,I1,rfl,q1⟩
theorem Adh (ha:PE X a ta):PE X (.UnaryOp .Not a pos) (AbG ta):=by
 intro pins s σ H Q I h
 refine UnaryOp_ (thn (ha pins s σ H _ I h) fun v s1 ⟨x,H1,I1,r1,q1⟩=>?_)
 obtain ⟨c,rfl,q1⟩:=q1
 cases r1
 exact not_of (wpAny_truthy_bool ⟨.bl (!c),H1,I1,rfl,q1⟩)
def tIf (t:TT) (ta tb:TE):TE:=fun σ H Q=>t σ H fun c H1=>if c = true then ta σ H1 Q else tb σ H1 Q
theorem Ae0 {c:Expr} (hc:PT X c tA) (ha:PE X a ta) (hb:PE X b tb):PE X (.IfExp c a b pos) (tIf tA ta tb):=by
 intro pins s σ H Q I h
 refine wpAny_IfExp (thn (hc pins s σ H _ I h) fun d s1 ⟨H1,I1,q1⟩=>?_)
 cases d with
 | true=>exact ha pins s1 σ H1 Q I1 q1
 | false=>exact hb pins s1 σ H1 Q I1 q1
end
end L2
namespace L2
open PySem PySem.Spec PyProof.Rows
def SqL (K:PySem.W.Frag) (H:Hp) (a:Addr) (xs:List V):Prop :=
 Rd H a (.lst xs) \/
  ∃ (o:Obj) (its:Array Value) (n:Nat),K.lookup a = some o/\o.cls = .type "list"/\o.dict = none/\o.data = .seq its n/\its.size <= sizeLine/\Vals xs its.toList
def SqT (K:PySem.W.Frag) (H:Hp) (a:Addr) (xs:List V):Prop :=
 Rd H a (.tup xs) \/
  ∃ (o:Obj) (its:Array Value) (n:Nat),K.lookup a = some o/\o.cls = .type "tuple"/\o.data = .seq its n/\its.size <= sizeLine/\Vals xs its.toList
def AkL:Value->Option V
 | .none=>some .non
 | .bool b=>some (.bl b)
 | .int i _=>some (.int i)
 | .str x _=>some (.str x)
 | .bytes b _=>some (.byt b)
 | .float b _=>some (.flt b)
 | .ref a=>some (.ref a)
 | .type n=>some (.ty n)
 | _=>none
theorem RelV.abs {x:V} {u:Value} (r:RelV x u):AkL u = some x:=by
 cases x with
 | non=>cases r; rfl
 | bl _=>cases r; rfl
 | int _=>obtain ⟨t,rfl⟩:=r; rfl
 | str _=>obtain ⟨t,rfl⟩:=r; rfl
 | byt _=>obtain ⟨t,rfl⟩:=r; rfl
 | flt _=>obtain ⟨t,rfl⟩:=r; rfl
 | ref _=>cases r; rfl
 | ty _=>cases r; rfl
theorem RelV.inj {x y:V} {u:Value} (r:RelV x u) (q:RelV y u):x = y:=Option.some.inj (r.abs.symm.trans q.abs)
theorem Vals.inj:∀ {xs ys:List V} {us:List Value},Vals xs us->Vals ys us->xs = ys
 | _,_,_,.nil,.nil=>rfl
 | _,_,_,.cons r t,.cons r' t'=>by rw [r.inj r',Vals.inj t t']
section
variable {X:Cx} {pins:List (Addr × Obj)} {σ:St} {H:Hp} {s:Shared} {a:Addr} {xs ys:List V}
theorem SqL.of {K:PySem.W.Frag} (h:H a = some (.lst xs)):SqL K H a xs:=.inl (.inl h)
theorem SqT.of {K:PySem.W.Frag} (h:H a = some (.tup xs)):SqT K H a xs:=.inl (.inl h)
theorem Inv.list (I:Inv X pins σ H s) (h:SqL X.K H a xs):∃ its:List Value,Vals xs its/\PlainL s.heap a its.toArray/\xs.length <= sizeLine:=by
 rcases h with h | ⟨o,its,n,hk,hc,hd,hs,hz,r⟩
 ·obtain ⟨z,its,n,r,e⟩:=h.ok I.hok
  exact ⟨its,r,⟨_,n,e,rfl,rfl,rfl⟩,z⟩
 ·refine ⟨its.toList,r,⟨o,n,I.kIn a o hk,hc,hd,by simpa using hs⟩,?_⟩
  have e:=r.length
  simp only [Array.length_toList] at e
  omega
theorem Inv.tuple (I:Inv X pins σ H s) (h:SqT X.K H a xs):∃ its:List Value,Vals xs its/\IsTup s.heap a its.toArray/\xs.length <= sizeLine:=by
 rcases h with h | ⟨o,its,n,hk,hc,hs,hz,r⟩
 ·obtain ⟨z,its,r,p⟩:=h.ok I.hok
  exact ⟨its,r,p,z⟩
 ·refine ⟨its.toList,r,⟨o,I.kIn a o hk,hc,n,by simpa using hs⟩,?_⟩
  have e:=r.length
  simp only [Array.length_toList] at e
  omega
theorem Inv.list_inj (I:Inv X pins σ H s) (h:SqL X.K H a xs) (h':SqL X.K H a ys):xs = ys:=by
 obtain ⟨its,r,⟨o,n,e,_,_,d⟩,_⟩:=I.list h
 obtain ⟨its',r',⟨o',n',e',_,_,d'⟩,_⟩:=I.list h'
 rw [e] at e'; cases e'
 rw [d] at d'
 injection d' with d1 _
 have:its = its':=by simpa using congrArg Array.toList d1
 subst this
 exact r.inj r'
end
abbrev Cx.wish (X:Cx) (E:Value->Shared->Prop):Cx:={ X with xe:=E }
abbrev Cx.nox (X:Cx):Cx:=X.wish fun _ _=>False
theorem Cx.Ok.wish {X:Cx} (ok:X.Ok) (E:Value->Shared->Prop):(X.wish E).Ok :=
 ⟨ok.mod,ok.kind,ok.glob,ok.blt,ok.above,ok.inj,ok.has,ok.cab,ok.hd,ok.frames,ok.stk,ok.exf,ok.bs,ok.bsz,ok.noex,ok.exfs,ok.funs,ok.frf⟩
theorem Cx.Ok.unwish {X:Cx} {E:Value->Shared->Prop} (ok:(X.wish E).Ok):X.Ok :=
 ⟨ok.mod,ok.kind,ok.glob,ok.blt,ok.above,ok.inj,ok.has,ok.cab,ok.hd,ok.frames,ok.stk,ok.exf,ok.bs,ok.bsz,ok.noex,ok.exfs,ok.funs,ok.frf⟩
section
variable {X:Cx} {pins:List (Addr × Obj)} {σ:St} {H:Hp} {s:Shared} {E:Value->Shared->Prop}
theorem Inv.wish (I:Inv X pins σ H s) (E:Value->Shared->Prop):Inv (X.wish E) pins σ H s:=⟨I.ok.wish E,I.os,I.bare,I.base,I.loc,I.cell,I.free,I.freeC,I.pin,I.hok,I.len⟩
theorem Inv.unwish (I:Inv (X.wish E) pins σ H s):Inv X pins σ H s:=⟨I.ok.unwish,I.os,I.bare,I.base,I.loc,I.cell,I.free,I.freeC,I.pin,I.hok,I.len⟩
end
section
variable {X:Cx} {st:Stmt} {rest:List Stmt} {t u:TS} {e:Expr} {te:TE} {pos:Pos}
def Aa8:TS:=fun D σ H=>D.nx σ H
def Ad7 (t u:TS):TS:=fun D σ H=>t { D with nx:=u D } σ H
theorem Cw:PSs X [] Aa8:=fun _ _ σ H _ I h=>wpAny_execs_nil ⟨σ,H,I,h⟩
theorem Be (h1:PS X st t) (h2:PSs X rest u):PSs X (st :: rest) (Ad7 t u):=by
 intro pins s σ H D I h
 refine wpAny_execs_cons (thn (h1 pins s σ H { D with nx:=u D } I h) fun f s1 q=>?_)
 cases f with
 | next =>
  obtain ⟨σ',H',I',q⟩:=q
  exact h2 pins s1 σ' H' D I' q
 | ret v=>exact q
 | brk=>exact q
 | cont=>exact q
theorem Bh (h1:PS X st t):PSs X [st] t:=by
 intro pins s σ H D I h
 refine wpAny_execs_cons (thn (h1 pins s σ H D I h) fun f s1 q=>?_)
 cases f with
 | next=>exact wpAny_execs_nil q
 | ret v=>exact q
 | brk=>exact q
 | cont=>exact q
theorem Inv.quiet {pins:List (Addr × Obj)} {σ:St} {H:Hp} {s:Shared} (I:Inv X pins σ H s):interactive X.env = false:=by simp [interactive,I.ok.kind]
def AbS (te:TE):TS:=fun D σ H=>te σ H fun _ H1=>D.nx σ H1
theorem Cl (he:PE X e te) (hs:swapsWith e none pos.line X.env = pure false:=by rfl):PS X (.Expr e pos) (AbS te):=by
 intro pins s σ H D I h
 exact wpAny_Expr_any (thn (he pins s σ H _ I h) fun v s1 ⟨x,H1,I1,r1,q1⟩=>⟨σ,H1,I1,q1⟩) I.quiet hs
def Ym (te:TE):TS:=fun D σ H=>te σ H D.rt
theorem Cc (he:PE X e te):PS X (.Return (some e) pos) (Ym te):=by
 intro pins s σ H D I h
 exact wpAny_Return_some (thn (he pins s σ H _ I h) fun v s1 ⟨x,H1,I1,r1,q1⟩=>⟨x,σ,H1,I1,r1,q1⟩)
def AeQ (c:TT) (t u:TS):TS:=fun D σ H=>c σ H fun b H1=>if b = true then t D σ H1 else u D σ H1
theorem Di {c:Expr} {a b:List Stmt} {tc:TT} (hc:PT X c tc) (ha:PSs X a t) (hb:PSs X b u):PS X (.If c a b pos) (AeQ tc t u):=by
 intro pins s σ H D I h
 refine wpAny_If (thn (hc pins s σ H _ I h) fun d s1 ⟨H1,I1,q1⟩=>?_)
 cases d with
 | true=>exact ha pins s1 σ H1 D I1 q1
 | false=>exact hb pins s1 σ H1 D I1 q1
end
abbrev TG:=V->St->Hp->(St->Hp->Prop)->Prop
abbrev TGs:=List V->St->Hp->(St->Hp->Prop)->Prop
def PG (X:Cx) (target:Expr) (t:TG):Prop :=
 ∀ (pins:List (Addr × Obj)) (s:Shared) (σ:St) (H:Hp) (v:V) (u:Value) (Q:St->Hp->Prop),Inv X pins σ H s->RelV v u->t v σ H Q ->
  wpAny (model X.prog X.w) X.A (assign target X.env u) (fun _ s'=>∃ σ' H',Inv X pins σ' H' s'/\Q σ' H') X.xe s
def PGs (X:Cx) (ts:List Expr) (t:TGs):Prop :=
 ∀ (pins:List (Addr × Obj)) (s:Shared) (σ:St) (H:Hp) (vs:List V) (us:List Value) (Q:St->Hp->Prop),Inv X pins σ H s->Vals vs us->t vs σ H Q ->
  wpAny (model X.prog X.w) X.A (assignInOrder ((assignEach ts X.env).map (·.2)) us) (fun _ s'=>∃ σ' H',Inv X pins σ' H' s'/\Q σ' H') X.xe s
section
variable {X:Cx} {pos:Pos}
def Lo (i:Nat):TG:=fun v σ H Q=>Q (σ.set i (some v)) H
theorem By {i:Nat} {x:Str} (hN:X.N.Nodup) (hi:X.N[i]? = some x) (hx:Loc X.env.scope x) (hf:X.fn x = true\/X.env.scope.names.lookup x = some .local:=by first | exact .inl rfl | exact .inr rfl | assumption):PG X (.Name x pos) (Lo i):=by
 intro pins s σ H v u Q I r h
 exact wpAny_assign_Name (Ty I hN hi hx r (fun s' I'=>⟨_,H,I',h⟩) hf)
def AdV:TGs:=fun vs σ H Q=>vs = []/\Q σ H
def AbX (t:TG) (u:TGs):TGs:=fun vs σ H Q=>∃ v r,vs = v :: r/\t v σ H fun σ' H'=>u r σ' H' Q
theorem Gd:PGs X [] AdV:=by
 intro pins s σ H vs us Q I r h
 obtain ⟨e,h⟩:=h
 subst e
 cases r
 exact assignInOrder_nil ⟨σ,H,I,h⟩
theorem Cm {e:Expr} {es:List Expr} {t:TG} {u:TGs} (h1:PG X e t) (h2:PGs X es u)
  (hs:(assignEach (e :: es) X.env).map (·.2) = assign e X.env :: (assignEach es X.env).map (·.2):=by rfl):PGs X (e :: es) (AbX t u):=by
 intro pins s σ H vs us Q I r h
 obtain ⟨v,vr,e1,h⟩:=h
 subst e1
 cases r with
 | cons r rr =>
  rw [hs]
  refine assignInOrder_cons (thn (h1 pins s σ H _ _ _ I r h) fun _ s1 ⟨σ1,H1,I1,q1⟩=>?_)
  exact h2 pins s1 σ1 H1 _ _ Q I1 rr q1
def Zj (K:PySem.W.Frag) (n:Nat) (t:TGs):TG:=fun v σ H Q=>∃ a xs,v = .ref a/\SqT K H a xs/\xs.length = n/\t xs σ H Q
theorem Nn {es:List Expr} {k:Nat} {t:TGs} {n:Nat} (hc:X.calm = true) (h:PGs X es t)
  (hn:(assignEach es X.env).length = n:=by rfl) (hst:(assignEach es X.env).findIdx? (·.1) = none:=by rfl):PG X (.Tuple es k pos) (Zj X.K n t):=by
 intro pins s σ H v u Q I r hw
 obtain ⟨a,xs,e1,hq,hl,hw⟩:=hw
 subst e1
 cases r
 obtain ⟨its,rv,ht,hz⟩:=I.tuple hq
 refine assign_Tuple_tuple (I.ok.hd hc) ht (by simp [hn,<- hl,rv.length]) hst fun h' hx=>?_
 have I1:Inv X pins σ H { s with heap:=h' }:=I.kept (t':=s.toks) fun b o e=>hx b o (Nat.ne_of_lt (Heap.lt_size e)) e
 exact h pins _ σ H xs _ Q I1 (by simpa using rv) hw
def Sa (te:TE) (g:TG):TS:=fun D σ H=>te σ H fun x H1=>g x σ H1 D.nx
theorem Aio {tg e:Expr} {te:TE} {g:TG} (he:PE X e te) (hg:PG X tg g) (hs:swapsWithSole [tg] e pos.line X.env = pure false:=by rfl) (hw:swappedStores [tg] e X.env = pure none:=by rfl)
  (h1:(assignEach [tg] X.env).map (·.2) = [assign tg X.env]:=by rfl):PS X (.Assign [tg] e pos) (Sa te g):=by
 intro pins s σ H D I h
 refine wpAny_Assign_stores (thn (he pins s σ H _ I h) fun v s1 ⟨x,H1,I1,r1,q1⟩=>?_) hs hw
 rw [h1]
 exact thn (hg pins s1 σ H1 x v _ I1 r1 q1) fun _ s2 q=>q
theorem Bt {i:Nat} {x:Str} {e:Expr} {te:TE} {pos':Pos} (hN:X.N.Nodup) (hi:X.N[i]? = some x) (hx:Loc X.env.scope x) (he:PE X e te) (hs:swapsWith e (some (.Name x pos')) pos.line X.env = pure false:=by rfl) (hf:X.fn x = true\/X.env.scope.names.lookup x = some .local:=by first | exact .inl rfl | exact .inr rfl | assumption) :
  PS X (.Assign [.Name x pos'] e pos) (Sa te (Lo i)):=by
 intro pins s σ H D I h
 refine wpAny_Assign_Name (thn (he pins s σ H _ I h) fun v s1 ⟨y,H1,I1,r1,q1⟩=>?_) hs
 exact Ty I1 hN hi hx r1 (fun s2 I2=>⟨_,H1,I2,q1⟩) hf
end
section
variable {X:Cx} {pos:Pos}
end
structure It where
 go:Nat->Hp->Prop
 yld:Nat->Hp->V->Hp->Prop
 stop:Nat->Hp->Prop
def Uc (X:Cx) (pins:List (Addr × Obj)) (H:Hp) (b:Addr):Prop :=
 H b = none/\b ≠ X.env.locals/\b ∉ X.fs/\(b ∈ X.ex\/X.s₀.heap.objs.size <= b)/\(∀ x c,X.env.cells.lookup x = some c->c ≠ b)/\∀ p ∈ X.pn ++ pins,p.1 ≠ b
theorem Inv.fpOk {X:Cx} {pins:List (Addr × Obj)} {σ:St} {H H':Hp} {s:Shared} {b:Addr} (I:Inv X pins σ H s) (hb:s.heap.objs.size <= b) (hn:H' b = none):Uc X pins H' b:=by
 refine ⟨hn,Nat.ne_of_gt (Nat.lt_of_lt_of_le I.lt hb),I.nofs hb,.inr (Nat.le_trans I.sz hb),fun x c e z=>?_,fun p hp z=>?_⟩
 ·obtain ⟨v,q⟩:=I.cell x c e
  exact absurd (Nat.lt_of_lt_of_le q.lt (by rw [z]; exact hb)) (Nat.lt_irrefl _)
 ·exact absurd (Nat.lt_of_lt_of_le (Heap.lt_size (I.pin p hp).1) (by rw [z]; exact hb)) (Nat.lt_irrefl _)
structure Vm (P:Program) (w:World) (K:PySem.W.Frag) (tg:Expr) (J:It) (fp:List Addr) (it:Addr) (tn:Nat->Heap->Prop):Prop where
 mem:it ∈ fp
 obj:∀ i h,tn i h->∀ b ∈ fp,∃ o,h.get? b = some o/\∀ v,o.data ≠ .cell v
 keep:∀ i h h',tn i h->(∀ b ∈ fp,∀ o,h.get? b = some o->h'.get? b = some o)->tn i h'
 item:∀ (X:Cx),X.prog = P->X.w = w->X.K = K->X.calm = true->∀ (i:Nat) (pins:List (Addr × Obj)) (s:Shared) (σ:St) (H:Hp) (E:Value->Shared->Prop),Inv X pins σ H s->(∀ b ∈ fp,Uc X pins H b)->tn i s.heap->J.go i H ->
  wpAny (model P w) X.A (pyNext (.ref it)) (fun r s1=>∃ u,r = some u /\
   wpAny (model P w) X.A (letOwnedTupleGo tg (.ref it) u) (fun _ s2=>∃ x H',Inv X pins σ H' s2/\RelV x u/\J.yld i H x H'/\tn (i + 1) s2.heap/\∀ b ∈ fp,H' b = none) E s1) E s
 done:∀ (X:Cx),X.prog = P->X.w = w->X.K = K->X.calm = true->∀ (i:Nat) (pins:List (Addr × Obj)) (s:Shared) (σ:St) (H:Hp) (E:Value->Shared->Prop),Inv X pins σ H s->(∀ b ∈ fp,Uc X pins H b)->tn i s.heap->J.stop i H ->
  wpAny (model P w) X.A (pyNext (.ref it)) (fun r s1=>r = none/\Inv X pins σ H s1) E s
 self:∀ (A:Around) (i:Nat) (s:Shared) (Q:Value->Shared->Prop) (E:Value->Shared->Prop),tn i s.heap->Q (.ref it) s->wpAny (model P w) A (pyIter (.ref it)) Q E s
abbrev TI:=St->Hp->(It->Hp->Prop)->Prop
def PIE (X:Cx) (pins:List (Addr × Obj)) (σ:St) (tg:Expr) (R:It->Hp->Prop) (itv:Value) (s2:Shared):Prop :=
 ∃ (it:Addr) (fp:List Addr) (tn:Nat->Heap->Prop) (J:It) (H':Hp),itv = .ref it/\Inv X pins σ H' s2/\Vm X.prog X.w X.K tg J fp it tn/\tn 0 s2.heap/\(∀ b ∈ fp,Uc X pins H' b)/\R J H'
def PI (X:Cx) (tg iter:Expr) (wi:TI):Prop :=
 ∀ (pins:List (Addr × Obj)) (s:Shared) (σ:St) (H:Hp) (R:It->Hp->Prop),Inv X pins σ H s->wi σ H R ->
  wpAny (model X.prog X.w) X.A (eval iter X.env) (fun v s1=>wpAny (model X.prog X.w) X.A (pyIter v) (PIE X pins σ tg R) X.xe s1) X.xe s
theorem Abl {M:Model} {A:Around} {E:Value->Shared->Prop} {s:Shared} {tg:Expr} {it:Addr} {u:Value} {o:Obj} {n:String} {vs:Array Value} {Q:Unit->Shared->Prop} (ho:s.heap.get? it = some o) (hc:o.cls = .type n) (hd:o.data = .fields vs)
  (hn:["enumerate","zip","dict_itemiterator","dict_reverseitemiterator","odict_iterator","itertools.zip_longest","itertools.pairwise"].contains n = false) (hQ:Q () s):wpAny M A (letOwnedTupleGo tg (.ref it) u) Q E s:=by
 unfold letOwnedTupleGo
 cases tg <;> first
  | exact wpAny_pure hQ
  | (cases u <;> first
    | exact wpAny_pure hQ
    | (refine wpAny_bind (wpAny_load ho ?_); rw [hc,hd]; show wpAny M A (if (["enumerate","zip","dict_itemiterator","dict_reverseitemiterator","odict_iterator","itertools.zip_longest","itertools.pairwise"].contains n && vs[0]? == some (rawInt _)) = true then _ else _) Q E s; rw [if_neg (by intro h; rw [hn,Bool.false_and] at h; cases h)]; exact wpAny_pure hQ))
def Itl (K:PySem.W.Frag) (a:Addr):It :=
 ⟨fun i H=>∃ xs x,SqL K H a xs/\xs[i]? = some x,fun i H x H'=>H' = H/\∀ xs,SqL K H a xs->xs[i]? = some x,fun i H=>∃ xs,SqL K H a xs/\xs.length <= i⟩
def Itr (lo:Int) (n:Nat):It:=⟨fun i _=>i < n,fun i H x H'=>H' = H/\x = .int (lo + i),fun i _=>n <= i⟩
theorem Ac5 {P:Program} {w:World} {K:PySem.W.Frag} {tg:Expr} (a it:Addr):Vm P w K tg (Itl K a) [it] it (fun i h=>h.IsListIter it a i) where
 mem:=by simp
 obj:=fun i h st b hb=>by
  have e:b = it:=by simpa using hb
  subst e
  obtain ⟨o,e,c,d⟩:=st
  exact ⟨o,e,fun v z=>by rw [d] at z; cases z⟩
 keep:=fun i h h' st k=>st.at fun o e=>k it (by simp) o e
 item:=by
  intro X hP hw hK hc i pins s σ H E I hf st hg
  subst hP hw hK
  obtain ⟨xs,x,hq,hx⟩:=hg
  obtain ⟨its,rv,p,hz⟩:=I.list hq
  obtain ⟨u,hu,ru⟩:=rv.get hx
  obtain ⟨f0,f1,f2,f3,f4,f5⟩:=hf it (by simp)
  refine wpAny_pyNext_list_item st p.isList (x:=u) (by simpa using hu) fun h' st' sb=>?_
  have I1:Inv X pins σ H { s with heap:=h' }:=I.turned (t':=s.toks) (fun b o hb e=>(sb.2 b hb).trans e) f0 f1 f3 f4 f5
  obtain ⟨o,e,c,d⟩:=id st'
  exact ⟨u,rfl,Abl (s:={ s with heap:=h' }) e c d (by decide) ⟨x,H,I1,ru,⟨rfl,fun ys hy=>by rw [I.list_inj hy hq]; exact hx⟩,st',fun b hb=>(hf b hb).1⟩⟩
 done:=by
  intro X hP hw hK hc i pins s σ H E I hf st hg
  subst hP hw hK
  obtain ⟨xs,hq,hx⟩:=hg
  obtain ⟨its,rv,p,hz⟩:=I.list hq
  obtain ⟨f0,f1,f2,f3,f4,f5⟩:=hf it (by simp)
  have hl:=rv.length
  exact wpAny_pyNext_list_end (I.ok.hd hc) st p.isList (by simp; omega) fun h' eb=>⟨rfl,I.turned (t':=s.toks) (fun b o hb e=>eb b o hb e) f0 f1 f3 f4 f5⟩
 self:=fun _ _ _ _ _ st h=>wpAny_pyIter_listiter st h
theorem AbP {P:Program} {w:World} {K:PySem.W.Frag} {tg:Expr} (it:Addr) (lo:Int) (n:Nat):Vm P w K tg (Itr lo n) [it] it (fun i h=>IsRangeIter h it (lo + (i:Nat) * 1) ((n:Int) - (i:Nat)) 1) where
 mem:=by simp
 obj:=fun i h st b hb=>by
  have e:b = it:=by simpa using hb
  subst e
  exact ⟨_,st,fun v z=>by
   have z':Data.fields _ = Data.cell v:=z
   cases z'⟩
 keep:=fun i h h' st k=>k it (by simp) _ st
 item:=by
  intro X hP hw hK hc i pins s σ H E I hf st hg
  subst hP hw hK
  obtain ⟨f0,f1,f2,f3,f4,f5⟩:=hf it (by simp)
  have W:=Walks.range (prog:=X.prog) (w:=X.w) (I.ok.hd hc) it lo 1 n
  refine W.item i s _ _ hg st fun v h' tk hv st' kk=>?_
  obtain ⟨t,rfl⟩:=hv
  have I1:Inv X pins σ H { s with heap:=h',toks:=tk }:=I.turned (fun b o hb e=>kk b o (by simpa using hb) e) f0 f1 f3 f4 f5
  refine ⟨_,rfl,Abl (s:={ s with heap:=h',toks:=tk }) (n:="range_iterator") st' rfl rfl (by decide) ⟨.int (lo + i),H,I1,⟨t,?_⟩,⟨rfl,rfl⟩,st',fun b hb=>(hf b hb).1⟩⟩
  rw [Int.mul_one]
 done:=by
  intro X hP hw hK hc i pins s σ H E I hf st hg
  subst hP hw hK
  obtain ⟨f0,f1,f2,f3,f4,f5⟩:=hf it (by simp)
  exact wpAny_pyNext_range_end (I.ok.hd hc) st (by have:n <= i:=hg; omega) fun h' eb=>⟨rfl,I.turned (t':=s.toks) (fun b o hb e=>eb b o hb e) f0 f1 f3 f4 f5⟩
 self:=fun _ _ _ _ _ st h=>wpAny_pyIter_rangeiter st h
end L2
namespace L2
open PySem PySem.Spec PyProof.Rows
section
variable {X:Cx} {tg:Expr}
def Ti (K:PySem.W.Frag) (tl:TE):TI:=fun σ H R=>tl σ H fun x H1=>∃ a,x = .ref a/\(∃ xs,SqL K H1 a xs)/\R (Itl K a) H1
theorem Dh {l:Expr} {tl:TE} (hl:PE X l tl):PI X tg l (Ti X.K tl):=by
 intro pins s σ H R I h
 refine thn (hl pins s σ H _ I h) fun v s1 ⟨x,H1,I1,r1,q1⟩=>?_
 obtain ⟨a,e,⟨xs,hq⟩,q⟩:=q1
 subst e
 cases r1
 obtain ⟨its,rv,p,hz⟩:=I1.list hq
 refine wpAny_pyIter_list p.isList ?_
 refine ⟨s1.heap.objs.size,[s1.heap.objs.size],_,_,H1,rfl,I1.kept (t':=s1.toks) fun b o e=>Heap.get?_push_of_some _ e,Ac5 a _,⟨_,Heap.get?_push_size _ rfl,rfl,rfl⟩,fun b hb=>?_,q⟩
 have e:b = s1.heap.objs.size:=by simpa using hb
 subst e
 exact I1.fpOk (Nat.le_refl _) (I1.hok.fresh (Nat.le_refl _))
theorem Ae1 {pins:List (Addr × Obj)} {σ:St} {H:Hp} {s:Shared} {R:It->Hp->Prop} {E:Value->Shared->Prop} {lo hi:Int} {t u v:Tok} {tk:Nat} (I:Inv X pins σ H s) (h1:-(2 ^ 62) <= lo) (h2:lo < 2 ^ 62) (h3:-(2 ^ 62) <= hi) (h4:hi < 2 ^ 62)
  (q:R (Itr lo (hi - lo).toNat) H):wpAny (model X.prog X.w) X.A (pyIter (.ref s.heap.objs.size)) (PIE X pins σ tg R) E { s with heap:=s.heap.push { cls:=.type "range",data:=.fields #[.int lo t,.int hi u,.int 1 v] },toks:=tk }:=by
 refine wpAny_pyIter_range (IsRange.new ..) (small_one h1 h2 h3 h4) ?_
 have I1:Inv X pins σ H { s with heap:=s.heap.push { cls:=.type "range",data:=.fields #[.int lo t,.int hi u,.int 1 v] },toks:=tk }:=I.kept fun b o e=>Heap.get?_push_of_some _ e
 refine ⟨(s.heap.push { cls:=.type "range",data:=.fields #[.int lo t,.int hi u,.int 1 v] }).objs.size,[(s.heap.push { cls:=.type "range",data:=.fields #[.int lo t,.int hi u,.int 1 v] }).objs.size],_,_,H,rfl,
  I1.kept (t':=tk) fun b o e=>Heap.get?_push_of_some _ e,AbP _ lo (hi - lo).toNat,?_,fun b hb=>?_,q⟩
 ·have e1:lo + ((0:Nat):Int) * 1 = lo:=by simp
  have e2:(((hi - lo).toNat:Nat):Int) - ((0:Nat):Int) = Builtin.Range.rangeSize lo hi 1:=by rw [rangeSize_one]; split <;> omega
  show IsRangeIter _ _ (lo + ((0:Nat):Int) * 1) ((((hi - lo).toNat:Nat):Int) - ((0:Nat):Int)) 1
  rw [e1,e2]
  exact Heap.get?_push_size _ rfl
 ·have e:b = (s.heap.push { cls:=.type "range",data:=.fields #[.int lo t,.int hi u,.int 1 v] }).objs.size:=by simpa using hb
  subst e
  exact I1.fpOk (Nat.le_refl _) (I1.hok.fresh (Nat.le_refl _))
def AbI (ta:TA):TI:=fun σ H R=>ta σ H fun vs H1=>∃ j:Int,vs = [.int j]/\-(2 ^ 62) <= j/\j < 2 ^ 62/\R (Itr 0 j.toNat) H1
theorem Lg {a:Expr} {ta:TA} {p pos:Pos} (hg:Gl X "range") (hm:X.mg "range" = none) (ha:PA X [a] ta) (hs:starEach [a] X.env = [(false,eval a X.env)]:=by rfl):PI X tg (.Call (.Name "range" p) [a] [] pos) (AbI ta):=by
 intro pins s σ H R I h
 refine Call_ (No I hg hm boot_range (PyProof.Rows.callWith_type1 (thn (ha pos pins s σ H _ I h) fun us s1 ⟨vs,H1,I1,r1,q1⟩=>?_) hs rfl))
 obtain ⟨j,e,q1,q2,q⟩:=q1
 subst e
 cases r1 with
 | cons r rr =>
  cases rr
  obtain ⟨t,rfl⟩:=r
  exact call_range_1 (Ae1 I1 (by omega) (by omega) q1 q2 (by simpa using q))
def Rr (wi:TI) (g:TG) (tb:TS):TS:=fun D σ H=>wi σ H fun J H1=>∃ W:Nat->Nat->St->Hp->Prop,(∃ m,W 0 m σ H1)/\∀ i m σ H,W i m σ H ->
 (J.stop i H/\D.nx σ H)\/(J.go i H/\∃ N:St->Hp->Prop,(∀ σ' H',N σ' H'->∃ m',m' < m/\W (i + 1) m' σ' H')/\∀ x H',J.yld i H x H'->g x σ H' fun σ2 H2=>tb { D with nx:=N,ct:=N,bk:=D.nx } σ2 H2)
def Si (fp:List Addr) (h:Heap):List (Addr × Obj):=fp.filterMap fun b=>(h.get? b).map fun o=>(b,o)
theorem Li {fp:List Addr} {h:Heap} {b:Addr} {o:Obj} (hb:b ∈ fp) (e:h.get? b = some o):(b,o) ∈ Si fp h:=List.mem_filterMap.mpr ⟨b,hb,by rw [e]; rfl⟩
theorem Adb {fp:List Addr} {h:Heap} {p:Addr × Obj} (hp:p ∈ Si fp h):p.1 ∈ fp/\h.get? p.1 = some p.2:=by
 obtain ⟨b,hb,e⟩:=List.mem_filterMap.mp hp
 cases q:h.get? b with
 | none=>rw [q] at e; cases e
 | some o =>
  rw [q] at e
  have e':(b,o) = p:=Option.some.inj e
  subst e'
  exact ⟨hb,q⟩
theorem Inv.pinned {pins:List (Addr × Obj)} {σ:St} {H:Hp} {s:Shared} {fp:List Addr} (I:Inv X pins σ H s) (hf:∀ b ∈ fp,Uc X pins H b) (ho:∀ b ∈ fp,∃ o,s.heap.get? b = some o/\∀ v,o.data ≠ .cell v):Inv X (pins ++ Si fp s.heap) σ H s :=
 I.pins_of fun p hp=>(List.mem_append.mp hp).elim (fun z=>I.pin p (List.mem_append_right _ z)) fun z=>by
  obtain ⟨hb,e⟩:=Adb z
  obtain ⟨f0,f1,f2,_⟩:=hf p.1 hb
  obtain ⟨o,e',d⟩:=ho p.1 hb
  rw [e] at e'; cases e'
  exact ⟨e,f0,f1,f2,d⟩
theorem Inv.unpinned {pins pl:List (Addr × Obj)} {σ:St} {H:Hp} {s:Shared} (I:Inv X (pins ++ pl) σ H s):Inv X pins σ H s:=I.pins_of fun p hp=>I.pin p (List.mem_append_right _ (List.mem_append_left _ hp))
theorem Dm {iter:Expr} {body:List Stmt} {wi:TI} {g:TG} {tb:TS} {pos:Pos} (hp:PassesOwn (model X.prog X.w) X.A X.env X.xe) (hc:X.calm = true) (hi:PI X tg iter wi) (hg:PG X tg g) (hb:PSs X body tb)
  (hs:∀ x,foldedSetIterable iter X.env x = pure x:=by intro _; rfl):PS X (.For tg iter body [] pos) (Rr wi g tb):=by
 intro pins s σ H D I h
 refine wpAny_For (thn (hi pins s σ H _ I h) fun v s1 h1=>thn h1 fun itv s2 h2=>?_) hs
 obtain ⟨it,fp,tn,J,H2,e,I2,T,st2,f2,W,⟨m0,w0⟩,turn⟩:=h2
 subst e
 -- what stays true of the iterator's objects through the loop
 have stat:∀ {H':Hp},(∀ b ∈ fp,H' b = none)->∀ b ∈ fp,Uc X pins H' b:=fun hn b hb=>⟨hn b hb,(f2 b hb).2⟩
 refine codeAny_forLoop_any (fun n s'=>∃ i σ' H',Inv X pins σ' H' s'/\tn i s'.heap/\(∀ b ∈ fp,H' b = none)/\W i n σ' H') ?_ m0 ⟨0,σ,H2,I2,st2,fun b hb=>(f2 b hb).1,w0⟩
 rintro n s3 ⟨i,σ3,H3,I3,st3,fr3,w3⟩
 rcases turn i n σ3 H3 w3 with ⟨stop,qn⟩ | ⟨go,N,hN,step⟩
 ·refine wpAny_passesOwn hp (thn (T.done X rfl rfl rfl hc i pins s3 σ3 H3 X.xe I3 (stat fr3) st3 stop) fun r s4 ⟨hr,I4⟩=>?_)
  subst hr
  exact wpAny_execs_nil ⟨σ3,H3,I4,qn⟩
 ·refine wpAny_passesOwn hp (thn (T.item X rfl rfl rfl hc i pins s3 σ3 H3 X.xe I3 (stat fr3) st3 go) fun r s4 ⟨u,hr,h4⟩=>?_)
  subst hr
  refine wpAny_passesOwn hp (thn h4 fun _ s5 ⟨x,H5,I5,r5,y5,st5,fr5⟩=>?_)
  have I5':=I5.pinned (stat fr5) (T.obj _ _ st5)
  refine wpAny_passesOwn hp (thn (hg _ s5 σ3 H5 x u _ I5' r5 (step x H5 y5)) fun _ s6 ⟨σ6,H6,I6,q6⟩=>?_)
  refine wpAny_passesOwn hp (thn (hb _ s6 σ6 H6 _ I6 q6) fun f s7 q7=>?_)
  have again:∀ {σ7:St} {H7:Hp},Inv X (pins ++ Si fp s5.heap) σ7 H7 s7->N σ7 H7->∃ m,m < n/\∃ i σ' H',Inv X pins σ' H' s7/\tn i s7.heap/\(∀ b ∈ fp,H' b = none)/\W i m σ' H':=fun {σ7 H7} I7 n7=>by
   obtain ⟨m',hm,w7⟩:=hN σ7 H7 n7
   refine ⟨m',hm,i + 1,σ7,H7,I7.unpinned,T.keep _ _ _ st5 fun b hb o e=>(I7.pin (b,o) (List.mem_append_right _ (List.mem_append_right _ (Li hb e)))).1,fun b hb=>?_,w7⟩
   obtain ⟨o,e,d⟩:=T.obj _ _ st5 b hb
   exact (I7.pin (b,o) (List.mem_append_right _ (List.mem_append_right _ (Li hb e)))).2.1
  cases f with
  | next=>obtain ⟨σ7,H7,I7,n7⟩:=q7; exact again I7 n7
  | cont=>obtain ⟨σ7,H7,I7,n7⟩:=q7; exact again I7 n7
  | brk=>obtain ⟨σ7,H7,I7,q7⟩:=q7; exact ⟨σ7,H7,I7.unpinned,q7⟩
  | ret v=>obtain ⟨x7,σ7,H7,I7,r7,q7⟩:=q7; exact ⟨x7,σ7,H7,I7.unpinned,r7,q7⟩
end
theorem Ud {K:PySem.W.Frag} {a:Addr} {xs:List V} {g:TG} {tb:TS} {D:Ends} {σ:St} {H:Hp} (Pv:Nat->St->Hp->Prop) (h0:Pv 0 σ H) (hl:∀ i σ H,i <= xs.length->Pv i σ H->SqL K H a xs)
  (hs:∀ i x σ H,xs[i]? = some x->Pv i σ H->g x σ H fun σ2 H2=>tb { D with nx:=Pv (i + 1),ct:=Pv (i + 1),bk:=D.nx } σ2 H2) (hd:∀ σ H,Pv xs.length σ H->D.nx σ H) :
  ∃ W:Nat->Nat->St->Hp->Prop,(∃ m,W 0 m σ H)/\∀ i m σ H,W i m σ H ->
   ((Itl K a).stop i H/\D.nx σ H)\/((Itl K a).go i H/\∃ N:St->Hp->Prop,(∀ σ' H',N σ' H'->∃ m',m' < m/\W (i + 1) m' σ' H')/\∀ x H',(Itl K a).yld i H x H'->g x σ H' fun σ2 H2=>tb { D with nx:=N,ct:=N,bk:=D.nx } σ2 H2):=by
 refine ⟨fun i m σ H=>m = xs.length - i/\i <= xs.length/\Pv i σ H,⟨xs.length,by simp,Nat.zero_le _,h0⟩,?_⟩
 rintro i m σ H ⟨rfl,hi,p⟩
 have q:=hl i σ H hi p
 by_cases hlt:i < xs.length
 ·refine .inr ⟨⟨xs,xs[i],q,by simp [hlt]⟩,Pv (i + 1),fun σ' H' p'=>⟨xs.length - (i + 1),by omega,rfl,hlt,p'⟩,fun x H' y=>?_⟩
  obtain ⟨e,y⟩:=y
  subst e
  exact hs i x σ _ (y xs q) p
 ·have e:i = xs.length:=by omega
  subst e
  exact .inl ⟨⟨xs,q,Nat.le_refl _⟩,hd σ H p⟩
theorem AcY {lo:Int} {n:Nat} {g:TG} {tb:TS} {D:Ends} {σ:St} {H:Hp} (Pv:Nat->St->Hp->Prop) (h0:Pv 0 σ H)
  (hs:∀ i σ H,i < n->Pv i σ H->g (.int (lo + i)) σ H fun σ2 H2=>tb { D with nx:=Pv (i + 1),ct:=Pv (i + 1),bk:=D.nx } σ2 H2) (hd:∀ σ H,Pv n σ H->D.nx σ H) :
  ∃ W:Nat->Nat->St->Hp->Prop,(∃ m,W 0 m σ H)/\∀ i m σ H,W i m σ H ->
   ((Itr lo n).stop i H/\D.nx σ H)\/((Itr lo n).go i H/\∃ N:St->Hp->Prop,(∀ σ' H',N σ' H'->∃ m',m' < m/\W (i + 1) m' σ' H')/\∀ x H',(Itr lo n).yld i H x H'->g x σ H' fun σ2 H2=>tb { D with nx:=N,ct:=N,bk:=D.nx } σ2 H2):=by
 refine ⟨fun i m σ H=>m = n - i/\i <= n/\Pv i σ H,⟨n,by simp,Nat.zero_le _,h0⟩,?_⟩
 rintro i m σ H ⟨rfl,hi,p⟩
 by_cases hlt:i < n
 ·refine .inr ⟨hlt,Pv (i + 1),fun σ' H' p'=>⟨n - (i + 1),by omega,rfl,hlt,p'⟩,fun x H' y=>?_⟩
  obtain ⟨e,y⟩:=y
  subst e y
  exact hs i σ _ hlt p
 ·have e:i = n:=by omega
  subst e
  exact .inl ⟨Nat.le_refl _,hd σ H p⟩
end L2
namespace L2
open PySem PySem.Spec PyProof.Rows
abbrev R2:=V->V->Hp->VK->Prop
def OpR (X:Cx) (f:Value->Value->Sem Value) (r:R2):Prop :=
 ∀ (pins:List (Addr × Obj)) (s:Shared) (σ:St) (H:Hp) (x y:V) (v u:Value) (Q:VK),Inv X pins σ H s->RelV x v->RelV y u->r x y H Q ->
  wpAny (model X.prog X.w) X.A (f v u) (EP X pins σ Q) X.xe s
def UnR (X:Cx) (f:Value->Sem Value) (r:V->Hp->VK->Prop):Prop :=
 ∀ (pins:List (Addr × Obj)) (s:Shared) (σ:St) (H:Hp) (x:V) (v:Value) (Q:VK),Inv X pins σ H s->RelV x v->r x H Q ->
  wpAny (model X.prog X.w) X.A (f v) (EP X pins σ Q) X.xe s
def Gw (X:Cx) (f:Value) (r:List V->Hp->VK->Prop):Prop :=
 ∀ (pins:List (Addr × Obj)) (s:Shared) (σ:St) (H:Hp) (xs:List V) (us:List Value) (Q:VK),Inv X pins σ H s->Vals xs us->r xs H Q ->
  wpAny (model X.prog X.w) X.A (call f us) (EP X pins σ Q) X.xe s
def tOp (r:R2) (ta tb:TE):TE:=fun σ H Q=>ta σ H fun x H1=>tb σ H1 fun y H2=>r x y H2 Q
def tUn (r:V->Hp->VK->Prop) (ta:TE):TE:=fun σ H Q=>ta σ H fun x H1=>r x H1 Q
def rI (C:Int->Int->Prop) (g:Int->Int->V):R2:=fun x y H Q=>∃ i j,x = .int i/\y = .int j/\C i j/\Q (g i j) H
def rI0 (g:Int->Int->V):R2:=fun x y H Q=>∃ i j,x = .int i/\y = .int j/\Q (g i j) H
def rU (g:Int->V):V->Hp->VK->Prop:=fun x H Q=>∃ i,x = .int i/\Q (g i) H
section
variable {X:Cx} {a b c:Expr} {ta tb tc:TE} {pos:Pos}
theorem Ad2 (ha:PE X a ta) (hb:PE X b tb) {pins:List (Addr × Obj)} {s:Shared} {σ:St} {H:Hp} {R:V->V->Hp->Prop} (I:Inv X pins σ H s)
  (h:ta σ H fun x H1=>tb σ H1 fun y H2=>R x y H2) {Q:Value->Shared->Prop} {f:Value->Value->Sem Value}
  (hf:∀ v u s2 x y H2,Inv X pins σ H2 s2->RelV x v->RelV y u->R x y H2->wpAny (model X.prog X.w) X.A (f v u) Q X.xe s2) :
  wpAny (model X.prog X.w) X.A (eval a X.env) (fun v s₁=>wpAny (model X.prog X.w) X.A (eval b X.env) (fun u s₂=>wpAny (model X.prog X.w) X.A (f v u) Q X.xe s₂) X.xe s₁) X.xe s:=by
 refine thn (ha pins s σ H _ I h) fun v s1 ⟨x,H1,I1,r1,q1⟩=>?_
 refine thn (hb pins s1 σ H1 _ I1 q1) fun u s2 ⟨y,H2,I2,r2,q2⟩=>?_
 exact hf v u s2 x y H2 I2 r1 r2 q2
theorem Bp {op:Operator} {r:R2} (ho:OpR X (binaryOp op) r) (ha:PE X a ta) (hb:PE X b tb):PE X (.BinOp a op b pos) (tOp r ta tb):=by
 intro pins s σ H Q I h
 exact wpAny_BinOp (Ad2 ha hb I h fun v u s2 x y H2 I2 rx ry q=>ho pins s2 σ H2 x y v u Q I2 rx ry q)
theorem AfC {op:UnaryOp} {r:V->Hp->VK->Prop} (ho:UnR X (unaryOp op) r) (ha:PE X a ta):PE X (.UnaryOp op a pos) (tUn r ta):=by
 intro pins s σ H Q I h
 exact UnaryOp_ (thn (ha pins s σ H _ I h) fun v s1 ⟨x,H1,I1,r1,q1⟩=>ho pins s1 σ H1 x v Q I1 r1 q1)
theorem opI {f:Value->Value->Sem Value} {C:Int->Int->Prop} {g:Int->Int->Int}
  (rule:∀ (i j:Int) (t u:Tok) (s:Shared) (Q:Value->Shared->Prop) (E:Value->Shared->Prop),C i j->Q (.int (g i j) s.toks) { s with toks:=s.toks + 1 }->wpAny (model X.prog X.w) X.A (f (.int i t) (.int j u)) Q E s) :
  OpR X f (rI C fun i j=>.int (g i j)):=by
 intro pins s σ H x y v u Q I rx ry h
 obtain ⟨i,j,rfl,rfl,hc,q⟩:=h
 obtain ⟨t,rfl⟩:=rx
 obtain ⟨t',rfl⟩:=ry
 exact rule i j t t' s _ _ hc ⟨.int (g i j),H,I.tok _,⟨_,rfl⟩,q⟩
theorem AhL {f:Value->Value->Sem Value} {g:Int->Int->Int}
  (rule:∀ (i j:Int) (t u:Tok) (s:Shared) (Q:Value->Shared->Prop) (E:Value->Shared->Prop),Q (.int (g i j) s.toks) { s with toks:=s.toks + 1 }->wpAny (model X.prog X.w) X.A (f (.int i t) (.int j u)) Q E s) :
  OpR X f (rI0 fun i j=>.int (g i j)):=by
 intro pins s σ H x y v u Q I rx ry h
 obtain ⟨i,j,rfl,rfl,q⟩:=h
 obtain ⟨t,rfl⟩:=rx
 obtain ⟨t',rfl⟩:=ry
 exact rule i j t t' s _ _ ⟨.int (g i j),H,I.tok _,⟨_,rfl⟩,q⟩
theorem Aef {f:Value->Value->Sem Value} {g:Int->Int->Bool}
  (rule:∀ (i j:Int) (t u:Tok) (s:Shared) (Q:Value->Shared->Prop) (E:Value->Shared->Prop),Q (.bool (g i j)) s->wpAny (model X.prog X.w) X.A (f (.int i t) (.int j u)) Q E s) :
  OpR X f (rI0 fun i j=>.bl (g i j)):=by
 intro pins s σ H x y v u Q I rx ry h
 obtain ⟨i,j,rfl,rfl,q⟩:=h
 obtain ⟨t,rfl⟩:=rx
 obtain ⟨t',rfl⟩:=ry
 exact rule i j t t' s _ _ ⟨.bl (g i j),H,I,rfl,q⟩
def Abg (i j:Int):Prop:=0 < j/\j < 1073741824
def AbD (i j:Int):Prop:=0 <= j/\j <= 1000000/\i.natAbs < 2 ^ 64
def CMul (i j:Int):Prop:=(-(2 ^ 64) < i/\i < 2 ^ 64)\/(-(2 ^ 64) < j/\j < 2 ^ 64)
theorem CMul.ok {i j:Int} (h:CMul i j):IntMulOk i j:=by
 rcases h with ⟨h1,h2⟩ | ⟨h1,h2⟩
 ·exact .of_left (intBits_le_64 h1 h2)
 ·exact .of_right (intBits_le_64 h1 h2)
theorem Do:OpR X (binaryOp .Add) (rI0 fun i j=>.int (i + j)):=AhL fun _ _ _ _ _ _ _ q=>add_int q
theorem Uw:OpR X (binaryOp .Sub) (rI0 fun i j=>.int (i - j)):=AhL fun _ _ _ _ _ _ _ q=>sub_int q
theorem Ur:OpR X (binaryOp .Mult) (rI CMul fun i j=>.int (i * j)):=opI fun _ _ _ _ _ _ _ hc q=>mul_int q hc.ok
theorem Fm:OpR X (binaryOp .FloorDiv) (rI Abg fun i j=>.int (i / j)):=opI fun i j _ _ _ _ _ hc q=>by
 have h1:(0:Int) < j:=hc.1
 have h2:j < 1073741824:=hc.2
 exact floordiv_int (by omega) (by rw [Int.fdiv_eq_ediv_of_nonneg i (by omega)]; exact q) (.inl (PyProof.noPylong_small (by omega)))
theorem Cv:OpR X (binaryOp .Mod) (rI (fun _ j=>0 < j) fun i j=>.int (i % j)):=opI fun i j _ _ _ _ _ hc q=>by
 have h1:(0:Int) < j:=hc
 exact mod_int' (by omega) (by rw [Int.fmod_eq_emod_of_nonneg i (by omega)]; exact q)
theorem Jk:OpR X (binaryOp .Pow) (rI AbD fun i j=>.int (i ^ j.toNat)):=opI fun _ _ _ _ _ _ _ hc q=>pow_int_small hc.1 hc.2.1 hc.2.2 q
theorem unI {f:Value->Sem Value} {g:Int->Int}
  (rule:∀ (i:Int) (t:Tok) (s:Shared) (Q:Value->Shared->Prop) (E:Value->Shared->Prop),Q (.int (g i) s.toks) { s with toks:=s.toks + 1 }->wpAny (model X.prog X.w) X.A (f (.int i t)) Q E s) :
  UnR X f (rU fun i=>.int (g i)):=by
 intro pins s σ H x v Q I rx h
 obtain ⟨i,rfl,q⟩:=h
 obtain ⟨t,rfl⟩:=rx
 exact rule i t s _ _ ⟨.int (g i),H,I.tok _,⟨_,rfl⟩,q⟩
theorem AcV:UnR X (unaryOp .USub) (rU fun i=>.int (-i)):=unI fun _ _ _ _ _ q=>neg_int q
end
def Ai5:V->V->Bool
 | .non,.non=>true | .non,.int _=>true | .int _,.non=>true | .non,.bl _=>true | .bl _,.non=>true | .non,.str _=>true | .str _,.non=>true
 | .int _,.int _=>true | .bl _,.bl _=>true | .str _,.str _=>true | .byt _,.byt _=>true
 | .int _,.str _=>true | .str _,.int _=>true | .bl _,.str _=>true | .str _,.bl _=>true
 | _,_=>false
def rEq:R2:=fun x y H Q=>Ai5 x y = true/\Q (.bl (decide (x = y))) H
def rNe:R2:=fun x y H Q=>Ai5 x y = true/\Q (.bl (!decide (x = y))) H
theorem Aa4 {i j:Int}:decide (V.int i = V.int j) = (i == j):=by
 rw [Bool.eq_iff_iff]
 simp
theorem AcW {i j:Bool}:decide (V.bl i = V.bl j) = (i == j):=by
 rw [Bool.eq_iff_iff]
 simp
theorem AaZ {i j:Str}:decide (V.str i = V.str j) = (i == j):=by
 rw [Bool.eq_iff_iff]
 simp
theorem AaL {i j:Array UInt8}:decide (V.byt i = V.byt j) = (i.toList == j.toList):=by
 rw [Bool.eq_iff_iff]
 cases i
 cases j
 simp
section
variable {X:Cx} {a b c:Expr} {ta tb tc:TE} {pos:Pos}
theorem Cr {pins:List (Addr × Obj)} {σ:St} {H:Hp} {s:Shared} {Q:VK} {k k':Bool} (I:Inv X pins σ H s) (q:Q (.bl k) H) (e:k = k'):EP X pins σ Q (.bool k') s:=by
 subst e
 exact ⟨.bl k,H,I,rfl,q⟩
theorem Fr:OpR X (compareOp .Eq) rEq:=by
 intro pins s σ H x y v u Q I rx ry h
 obtain ⟨hs,q⟩:=h
 cases x with
 | non =>
  cases rx
  cases y with
  | non=>cases ry; exact PySem.EqNone.eq_none_none (Cr I q (by simp))
  | bl j=>cases ry; exact PySem.EqNone.eq_none_bool (Cr I q (by simp))
  | int j=>obtain ⟨t',rfl⟩:=ry; exact PySem.EqNone.eq_none_int (Cr I q (by simp))
  | str j=>obtain ⟨t',rfl⟩:=ry; exact PySem.EqNone.eq_none_str (Cr I q (by simp))
  | _=>exact absurd (show false = true from hs) Bool.false_ne_true
 | bl i =>
  cases rx
  cases y with
  | non=>cases ry; exact PySem.EqNone.eq_bool_none (Cr I q (by simp))
  | bl j=>cases ry; exact eq_bool (Cr I q AcW)
  | str j=>obtain ⟨t',rfl⟩:=ry; exact PySem.EqMixed.eq_bool_str (Cr I q (by simp))
  | _=>exact absurd (show false = true from hs) Bool.false_ne_true
 | int i =>
  obtain ⟨t,rfl⟩:=rx
  cases y with
  | non=>cases ry; exact PySem.EqNone.eq_int_none (Cr I q (by simp))
  | int j=>obtain ⟨t',rfl⟩:=ry; exact eq_int (Cr I q Aa4)
  | str j=>obtain ⟨t',rfl⟩:=ry; exact PySem.EqMixed.eq_int_str (Cr I q (by simp))
  | _=>exact absurd (show false = true from hs) Bool.false_ne_true
 | str i =>
  obtain ⟨t,rfl⟩:=rx
  cases y with
  | non=>cases ry; exact PySem.EqNone.eq_str_none (Cr I q (by simp))
  | bl j=>cases ry; exact PySem.EqMixed.eq_str_bool (Cr I q (by simp))
  | int j=>obtain ⟨t',rfl⟩:=ry; exact PySem.EqMixed.eq_str_int (Cr I q (by simp))
  | str j=>obtain ⟨t',rfl⟩:=ry; exact eq_str (Cr I q AaZ)
  | _=>exact absurd (show false = true from hs) Bool.false_ne_true
 | byt i =>
  obtain ⟨t,rfl⟩:=rx
  cases y with
  | byt j=>obtain ⟨t',rfl⟩:=ry; exact PySem.W.eq_bytes (Cr I q AaL)
  | _=>exact absurd (show false = true from hs) Bool.false_ne_true
 | _=>cases y <;> exact absurd (show false = true from hs) Bool.false_ne_true
theorem Ui:OpR X (compareOp .NotEq) rNe:=by
 intro pins s σ H x y v u Q I rx ry h
 obtain ⟨hs,q⟩:=h
 cases x with
 | non =>
  cases rx
  cases y with
  | non=>cases ry; exact PySem.EqNone.ne_none_none (Cr I q (by simp))
  | bl j=>cases ry; exact PySem.EqNone.ne_none_bool (Cr I q (by simp))
  | int j=>obtain ⟨t',rfl⟩:=ry; exact PySem.EqNone.ne_none_int (Cr I q (by simp))
  | str j=>obtain ⟨t',rfl⟩:=ry; exact PySem.EqNone.ne_none_str (Cr I q (by simp))
  | _=>exact absurd (show false = true from hs) Bool.false_ne_true
 | bl i =>
  cases rx
  cases y with
  | non=>cases ry; exact PySem.EqNone.ne_bool_none (Cr I q (by simp))
  | bl j=>cases ry; exact ne_bool (Cr I q (congrArg not AcW))
  | str j=>obtain ⟨t',rfl⟩:=ry; exact PySem.EqMixed.ne_bool_str (Cr I q (by simp))
  | _=>exact absurd (show false = true from hs) Bool.false_ne_true
 | int i =>
  obtain ⟨t,rfl⟩:=rx
  cases y with
  | non=>cases ry; exact PySem.EqNone.ne_int_none (Cr I q (by simp))
  | int j=>obtain ⟨t',rfl⟩:=ry; exact ne_int (Cr I q (congrArg not Aa4))
  | str j=>obtain ⟨t',rfl⟩:=ry; exact PySem.EqMixed.ne_int_str (Cr I q (by simp))
  | _=>exact absurd (show false = true from hs) Bool.false_ne_true
 | str i =>
  obtain ⟨t,rfl⟩:=rx
  cases y with
  | non=>cases ry; exact PySem.EqNone.ne_str_none (Cr I q (by simp))
  | bl j=>cases ry; exact PySem.EqMixed.ne_str_bool (Cr I q (by simp))
  | int j=>obtain ⟨t',rfl⟩:=ry; exact PySem.EqMixed.ne_str_int (Cr I q (by simp))
  | str j=>obtain ⟨t',rfl⟩:=ry; exact ne_str (Cr I q (congrArg not AaZ))
  | _=>exact absurd (show false = true from hs) Bool.false_ne_true
 | byt i =>
  obtain ⟨t,rfl⟩:=rx
  cases y with
  | byt j=>obtain ⟨t',rfl⟩:=ry; exact PySem.W.ne_bytes (Cr I q (congrArg not AaL))
  | _=>exact absurd (show false = true from hs) Bool.false_ne_true
 | _=>cases y <;> exact absurd (show false = true from hs) Bool.false_ne_true
theorem AfI:OpR X (compareOp .Lt) (rI0 fun i j=>.bl (decide (i < j))):=Aef fun _ _ _ _ _ _ _ q=>lt_int q
theorem Xk:OpR X (compareOp .Gt) (rI0 fun i j=>.bl (decide (j < i))):=Aef fun _ _ _ _ _ _ _ q=>gt_int q
theorem Abf:OpR X (compareOp .GtE) (rI0 fun i j=>.bl (decide (j <= i))):=Aef fun _ _ _ _ _ _ _ q=>ge_int q
theorem Ci (b:Expr) {op:CmpOp} (h:op ≠ .In:=by decide) (h2:op ≠ .NotIn:=by decide):behindInMarks op b = false:=by
 have e1:(op == CmpOp.In) = false:=by cases op <;> first | rfl | exact absurd rfl h
 have e2:(op == CmpOp.NotIn) = false:=by cases op <;> first | rfl | exact absurd rfl h2
 cases b <;> simp [behindInMarks,e1,e2]
theorem Gc {op:CmpOp} {r:R2} (ho:OpR X (compareOp op) r) (ha:PE X a ta) (hb:PE X b tb) (hm:behindInMarks op b = false):PE X (.Compare a [op] [b] pos) (tOp r ta tb):=by
 intro pins s σ H Q I h
 exact wpAny_Compare1 (Ad2 ha hb I h fun v u s2 x y H2 I2 rx ry q=>ho pins s2 σ H2 x y v u Q I2 rx ry q) hm
def AbR (t:TE):TT:=fun σ H Q=>t σ H fun x H'=>∃ k,x = .bl k/\Q k H'
theorem Cj {op:CmpOp} {r:R2} (ho:OpR X (compareOp op) r) (ha:PE X a ta) (hb:PE X b tb) (hm:behindInMarks op b = false):PT X (.Compare a [op] [b] pos) (AbR (tOp r ta tb)):=by
 intro pins s σ H Q I h
 refine wpAny_isTrue_Compare1 (thn (ha pins s σ H _ I h) fun v s1 ⟨x,H1,I1,r1,q1⟩=>thn (hb pins s1 σ H1 _ I1 q1) fun u s2 ⟨y,H2,I2,r2,q2⟩ =>
  thn (ho pins s2 σ H2 x y v u _ I2 r1 r2 q2) fun c s3 ⟨z,H3,I3,r3,k,e,q3⟩=>?_) hm
 subst e
 cases r3
 exact wpAny_truthy_bool ⟨H3,I3,q3⟩
theorem Zb:(sizeLine:Nat) < 2 ^ 63:=by rw [sizeLine_eq]; decide
theorem Sv {x:V} {us:List Value} (r:Vals [x] us):∃ u,us = [u]/\RelV x u:=by
 cases r with
 | cons r1 r2=>cases r2; exact ⟨_,rfl,r1⟩
theorem Age {x y:V} {us:List Value} (r:Vals [x,y] us):∃ u w',us = [u,w']/\RelV x u/\RelV y w':=by
 cases r with
 | cons r1 r2 =>
  cases r2 with
  | cons r3 r4=>cases r4; exact ⟨_,_,rfl,r1,r3⟩
end
end L2
namespace L2
open PySem PySem.Spec PyProof.Rows
structure ObjM (h:Heap) (x dx C:Addr) (mA:Str->Option Value):Prop where
 obj:h.get? x = some (PySem.W.instObj C dx)
 ns:h.Ns1 dx mA
 ne:dx ≠ x
theorem AcH {h:Heap} {dx:Addr} {mA:Str->Option Value} (n:h.Ns1 dx mA):∃ od,h.get? dx = some od/\∀ name,PySem.W.lookIn name od = some (mA name):=by
 obtain ⟨o,es,ep,ho,hd,hk,_,hm⟩:=n
 refine ⟨o,ho,fun name=>?_⟩
 have e:=hm name
 unfold nsFind findBy at e
 rw [<- Array.find?_toList] at e
 unfold PySem.W.lookIn
 rw [hd]
 dsimp only
 split
 ·rename_i y q
  rw [q] at e
  exact congrArg some e
 ·rename_i q
  rw [q] at e
  have a:es.toList.any (·.refKey) = false:=by
   rw [List.any_eq_false]
   intro y hy
   obtain ⟨z,t,hkey⟩:=hk y (Array.mem_toList_iff.mp hy)
   simp [DictEntry.refKey,hkey]
  have a':¬ es.toList.any (·.refKey) = true:=by rw [a]; exact Bool.false_ne_true
  rw [if_neg a']
  exact congrArg some e
theorem ObjM.look {h:Heap} {x dx C:Addr} {mA:Str->Option Value} (I:ObjM h x dx C mA):∃ od,PySem.W.InstAt h x (PySem.W.instObj C dx) C (some od)/\∀ name,PySem.W.lookIn name od = some (mA name) :=
 let ⟨od,ho,hl⟩:=AcH I.ns
 ⟨od,⟨I.obj,rfl,rfl,ho⟩,hl⟩
section
variable {prog:Program} {w:World} {A:Around} {E:Value->Shared->Prop} {s:Shared} {K:PySem.W.Frag} {x dx C f:Addr} {mA:Str->Option Value} {name:Str} {v:Value}
theorem Agt {expr:Bool} {Q:Value->Shared->Prop} (X:K.In s.heap) (I:ObjM s.heap x dx C mA) (hg:PySem.W.plainGet K C name = true) (hh:PySem.W.hasDictIn K C = true)
  (ha:PySem.W.findIn K (.ref C) name = some none) (hv:mA name = some v) (hv':PySem.W.handedIn v = true) (h:Q v { s with toks:=s.toks + 1 }) :
  wpAny (model prog w) A (getAttr (.ref x) name expr) Q E s:=by
 obtain ⟨od,J,hl⟩:=I.look
 exact PySem.W.get_value X J (PySem.W.plainGet_of hg).1 (PySem.W.findObj_own hh ha rfl (by rw [hl,hv])) hv' h
theorem Ael {pl:Sem Bool} {Q:Value × List Value->Shared->Prop} (X:K.In s.heap) (I:ObjM s.heap x dx C mA) (hg:PySem.W.plainGet K C name = true)
  (hf:PySem.W.findIn K (.ref C) name = some (some (.ref f))) (ht:PySem.W.isFn K (.ref f) = true) (hv:mA name = none) (h:Q (.ref f,[.ref x]) s) :
  wpAny (model prog w) A (getMethod (.ref x) name pl) Q E s:=by
 obtain ⟨od,J,hl⟩:=I.look
 exact PySem.W.method_fn X J (PySem.W.plainGet_of hg).1 (PySem.W.plainGet_of hg).2 hf (beq_iff_eq.mp ht) (by show (PySem.W.lookIn name od).map (·.isSome) = some false; rw [hl,hv]; rfl) h
theorem Agu {ns:List Str} {Q:Unit->Shared->Prop} (X:K.In s.heap) (I:ObjM s.heap x dx C mA)
  (hs:PySem.W.findIn K (.ref C) "__setattr__" = some (some (.builtin "object.__setattr__"))) (hp:PySem.W.plainOver K C = true) (ht:PySem.W.takerIn K C name = some none) (hh:PySem.W.hasDictIn K C = true)
  (hw:PySem.Within mA ns) (hsz:ns.length <= sizeLine)
  (h:∀ h',ObjM h' x dx C (fun y=>if y = name then some v else mA y)->Heap.SameBut dx s.heap h'->Q () { s with heap:=h',toks:=s.toks + 2 }) :
  wpAny (model prog w) A (setAttr (.ref x) name v) Q E s:=by
 obtain ⟨od,J,hl⟩:=I.look
 refine PySem.W.set_plain X J hs (PySem.W.osa_open (s:={ s with toks:=s.toks + 1 }) (r:=none) X J hp ht fun b=>?_)
 obtain ⟨cd,hc,hd'⟩:=PySem.W.any_some hh
 have hx:s.heap.get? x = some ⟨.ref C,some dx,.plain,#[]⟩:=I.obj
 refine wpAny_bind (wpAny_pure (wpAny_bind (wpAny_bind (wpAny_loadPart hx (wpAny_bind (PySem.W.Looks.here (s:={ s with toks:=s.toks + 1 }) (PySem.W.looks_clsIn X hc) ?_))))))
 rw [hd']
 refine wpAny_pure (a:=some dx) (wpAny_bind (wpAny_pure (wpAny_bind ?_)))
 refine wpAny_nsSet1 (s:={ s with toks:=s.toks + 1 }) I.ns fun h' hn2 hs2=>?_
 obtain ⟨oD,esD,epD,hoD,hdD,hcD⟩:=hn2.count (PySem.Within.cons name v hw)
 refine wpAny_bind (wpAny_lookBehind hoD (by rw [hdD]; exact pastItsLine_dict (Nat.le_trans hcD (by rw [List.length_cons]; omega))) ?_)
 exact wpAny_pure (h _ ⟨(hs2.2 _ (Ne.symm I.ne)).trans I.obj,hn2,I.ne⟩ hs2)
theorem Aep {R:Result->Shared->Prop} {vs:List Value} {kw:List (Str × Value)} (X:K.In s.heap) (hm:PySem.W.makesIn K C = true)
  (hi:PySem.W.findIn K (.ref C) "__init__" = some (some (.ref f))) (hf:PySem.W.typeIn K (.ref f) = some (.type "function"))
  (h:codeAny (model prog w) (A.under (.builtin "type.__call__" ⟨.ref C :: vs,kw⟩)) (.call (.ref f) ⟨.ref (s.heap.objs.size + 1) :: vs,kw⟩) (PySem.W.InitBack (s.heap.objs.size + 1) R)
   { s with heap:=(s.heap.push PySem.W.emptyDict).push (PySem.W.instObj C s.heap.objs.size) }) :
  codeAny (model prog w) A (.call (.ref C) ⟨vs,kw⟩) R s:=by
 obtain ⟨hh,g,d,t,os⟩:=s
 exact PySem.W.make_core (PySem.W.makes_of X hm) (PySem.W.looks_findIn X hi) (fun self=>PySem.W.bind_fn X self hf) (.inl rfl) h
end
def Br (f:Str) (v:V):List (Str × V)->List (Str × V)
 | []=>[(f,v)]
 | (g,x) :: r=>if g = f then (g,v) :: r else (g,x) :: Br f v r
theorem Cf (f g:Str) (v:V):∀ fs:List (Str × V),(Br f v fs).lookup g = if g = f then some v else fs.lookup g
 | []=>by
  show List.lookup g [(f,v)] = _
  by_cases h:g = f
  ·have hb:(g == f) = true:=beq_iff_eq.mpr h
   simp only [List.lookup,hb,if_pos h]
  ·have hb:(g == f) = false:=beq_eq_false_iff_ne.mpr h
   simp only [List.lookup,hb,if_neg h]
 | (k,x) :: r=>by
  have ih:=Cf f g v r
  rw [show Br f v ((k,x) :: r) = (if k = f then (k,v) :: r else (k,x) :: Br f v r) from rfl]
  by_cases hk:k = f
  ·rw [if_pos hk]
   by_cases h:g = k
   ·have hb:(g == k) = true:=beq_iff_eq.mpr h
    simp only [List.lookup,hb,if_pos (h.trans hk)]
   ·have hb:(g == k) = false:=beq_eq_false_iff_ne.mpr h
    simp only [List.lookup,hb,if_neg (fun e:g = f=>h (e.trans hk.symm))]
  ·rw [if_neg hk]
   by_cases h:g = k
   ·have hb:(g == k) = true:=beq_iff_eq.mpr h
    simp only [List.lookup,hb,if_neg (fun e:g = f=>hk (h.symm.trans e))]
   ·have hb:(g == k) = false:=beq_eq_false_iff_ne.mpr h
    simp only [List.lookup,hb]
    exact ih
theorem Sf (f:Str) (v:V):∀ fs:List (Str × V),f ∈ (Br f v fs).map (·.1)/\∀ g,g ∈ fs.map (·.1)->g ∈ (Br f v fs).map (·.1)
 | []=>⟨by simp [Br],fun g h=>by simp at h⟩
 | (k,x) :: r=>by
  obtain ⟨i1,i2⟩:=Sf f v r
  rw [show Br f v ((k,x) :: r) = (if k = f then (k,v) :: r else (k,x) :: Br f v r) from rfl]
  by_cases hk:k = f
  ·rw [if_pos hk]
   subst hk
   exact ⟨by simp,fun g h=>by simpa using h⟩
  ·rw [if_neg hk]
   refine ⟨?_,fun g h=>?_⟩
   ·rw [List.map_cons]
    exact List.mem_cons_of_mem _ i1
   ·rw [List.map_cons] at h ⊢
    rcases List.mem_cons.mp h with e | e
    ·exact List.mem_cons.mpr (.inl e)
    ·exact List.mem_cons_of_mem _ (i2 g e)
theorem De (f:Str) (v:V):∀ fs:List (Str × V),(Br f v fs).length <= fs.length + 1
 | []=>by simp [Br]
 | (k,x) :: r=>by
  have ih:=De f v r
  rw [show Br f v ((k,x) :: r) = (if k = f then (k,v) :: r else (k,x) :: Br f v r) from rfl]
  by_cases hk:k = f
  ·rw [if_pos hk,List.length_cons,List.length_cons]; omega
  ·rw [if_neg hk,List.length_cons,List.length_cons]; omega
theorem RelO.some_of {v:V} {o:Option Value} (r:RelO (some v) o):∃ u,o = some u/\RelV v u:=by
 cases o with
 | none=>exact (show False from r).elim
 | some u=>exact ⟨u,rfl,r⟩
theorem RelO.none_of {o:Option Value} (r:RelO none o):o = none:=by
 cases o with
 | none=>rfl
 | some u=>exact (show False from r).elim
theorem Ab5 {v:V} {u:Value} (r:RelV v u):PySem.W.handedIn u = true:=by
 cases v with
 | non=>cases (show u = Value.none from r); rfl
 | bl b=>cases (show u = Value.bool b from r); rfl
 | int i=>obtain ⟨t,e⟩:=(show ∃ t,u = Value.int i t from r); cases e; rfl
 | str x=>obtain ⟨t,e⟩:=(show ∃ t,u = Value.str x t from r); cases e; rfl
 | byt b=>obtain ⟨t,e⟩:=(show ∃ t,u = Value.bytes b t from r); cases e; rfl
 | flt b=>obtain ⟨t,e⟩:=(show ∃ t,u = Value.float b t from r); cases e; rfl
 | ref a=>cases (show u = Value.ref a from r); rfl
 | ty n=>cases (show u = Value.type n from r); rfl
section
variable {P:Program} {w:World} {H H':Hp} {h h':Heap} {a C dx:Addr} {fs fs':List (Str × V)}
theorem Tl (hok:HOk P w H h) (e:H a = some (.ins C dx fs)):∃ mA,ObjM h a dx C mA/\(∀ f,RelO (fs.lookup f) (mA f))/\PySem.Within mA (fs.map (·.1))/\fs.length <= 1000/\H dx = some (.own a):=by
 obtain ⟨d,z,ne,ob,mA,n,r,q⟩:=(show ObjOk P w H h a (.ins C dx fs) from hok a _ e)
 exact ⟨mA,⟨ob,n,ne⟩,r,q,z,d⟩
end
structure Cls (K:PySem.W.Frag) (C:Addr):Prop where
 pg:PySem.W.plainGet K C Str.empty = true
 hd:PySem.W.hasDictIn K C = true
 po:PySem.W.plainOver K C = true
 sa:PySem.W.findIn K (.ref C) "__setattr__" = some (some (.builtin "object.__setattr__"))
theorem Cls.get {K:PySem.W.Frag} {C:Addr} (c:Cls K C) (f:Str):PySem.W.plainGet K C f = true:=c.pg
def NoAttr (K:PySem.W.Frag) (C:Addr) (f:Str):Prop:=PySem.W.findIn K (.ref C) f = some none
theorem NoAttr.taker {K:PySem.W.Frag} {C:Addr} {f:Str} (n:NoAttr K C f):PySem.W.takerIn K C f = some none:=by
 unfold PySem.W.takerIn
 rw [show PySem.W.findIn K (.ref C) f = some none from n]
 rfl
structure Vp (K:PySem.W.Frag) (C:Addr) (m:Str) (f:Addr):Prop where
 at_:PySem.W.findIn K (.ref C) m = some (some (.ref f))
 fn:PySem.W.isFn K (.ref f) = true
 kp:PySem.W.keepIn K (.ref f) = true
section
variable {X:Cx} {pins:List (Addr × Obj)} {σ:St} {H:Hp} {s:Shared} {a C dx:Addr} {fs:List (Str × V)} {f:Str} {v:V} {A:Around} {E:Value->Shared->Prop}
theorem AbW {b:Bool} {Q:Value->Shared->Prop} (I:Inv X pins σ H s) (e:H a = some (.ins C dx fs)) (c:Cls X.K C) (n:NoAttr X.K C f) (l:fs.lookup f = some v)
  (h:∀ u s',Inv X pins σ H s'->RelV v u->Q u s'):wpAny (model X.prog X.w) A (getAttr (.ref a) f b) Q E s:=by
 obtain ⟨mA,O,r,_,_,_⟩:=Tl I.hok e
 obtain ⟨u,hu,ru⟩:=RelO.some_of (v:=v) (o:=mA f) (by rw [<- l]; exact r f)
 exact Agt I.kIn O (c.get f) c.hd n hu (Ab5 ru) (h u _ (I.tok _) ru)
theorem AbC {m:Str} {g:Addr} {pl:Sem Bool} {Q:Value × List Value->Shared->Prop} (I:Inv X pins σ H s) (e:H a = some (.ins C dx fs)) (c:Cls X.K C) (k:Vp X.K C m g) (l:fs.lookup m = none)
  (h:Q (.ref g,[.ref a]) s):wpAny (model X.prog X.w) A (getMethod (.ref a) m pl) Q E s:=by
 obtain ⟨mA,O,r,_,_,_⟩:=Tl I.hok e
 have hn:mA m = none:=RelO.none_of (by rw [<- l]; exact r m)
 exact Ael I.kIn O (c.get m) k.at_ k.fn hn h
theorem Aa6 {y:V} {u:Value} {Q:Unit->Shared->Prop} (I:Inv X pins σ H s) (e:H a = some (.ins C dx fs)) (c:Cls X.K C) (n:NoAttr X.K C f) (hl:fs.length < 1000) (ry:RelV y u)
  (h:∀ s',Inv X pins σ (upd H a (.ins C dx (Br f y fs))) s'->Q () s'):wpAny (model X.prog X.w) A (setAttr (.ref a) f u) Q E s:=by
 obtain ⟨mA,O,r,wi,_,ho⟩:=Tl I.hok e
 have hz:(fs.map (·.1)).length <= sizeLine:=by rw [List.length_map,sizeLine_eq]; omega
 refine Agu I.kIn O c.sa c.po n.taker c.hd wi hz fun h' O' sb=>h _ ?_
 have hd:∃ o,h'.get? dx = some o:=let ⟨o,_,_,e',_⟩:=O'.ns; ⟨o,e'⟩
 refine I.write (x:=a) (e:=dx) (by rw [e]; exact True.intro) (.inr ho) (fun b q hb z=>(sb.2 b hb).trans z) hd ?_
 refine ⟨by rw [Bg O.ne]; exact ho,?_,O.ne,O'.obj,_,O'.ns,fun g=>?_,fun g hg=>?_⟩
 ·have:=De f y fs; omega
 ·show RelO ((Br f y fs).lookup g) (if g = f then some u else mA g)
  rw [Cf]
  by_cases q:g = f
  ·rw [if_pos q,if_pos q]; exact ry
  ·rw [if_neg q,if_neg q]; exact r g
 ·by_cases q:g = f
  ·rw [q]; exact (Sf f y fs).1
  ·refine (Sf f y fs).2 g (wi g fun z=>hg ?_)
   show (if g = f then some u else mA g) = none
   rw [if_neg q]; exact z
theorem Inv.made (I:Inv X pins σ H s):Inv X pins σ (upd (upd H s.heap.objs.size (.own (s.heap.objs.size + 1))) (s.heap.objs.size + 1) (.ins C s.heap.objs.size []))
  { s with heap:=(s.heap.push PySem.W.emptyDict).push (PySem.W.instObj C s.heap.objs.size) }:=by
 have e1:(s.heap.push PySem.W.emptyDict).get? s.heap.objs.size = some PySem.W.emptyDict:=Heap.get?_push_size s.heap rfl
 have e2:((s.heap.push PySem.W.emptyDict).push (PySem.W.instObj C s.heap.objs.size)).get? (s.heap.objs.size + 1) = some (PySem.W.instObj C s.heap.objs.size):=by
  have:=Heap.get?_push_size (s.heap.push PySem.W.emptyDict) (o:=PySem.W.instObj C s.heap.objs.size) rfl
  rwa [Heap.size_push] at this
 have e3:(s.heap.push PySem.W.emptyDict).Ns s.heap.objs.size (fun _=>none):=⟨PySem.W.emptyDict,#[],_,e1,rfl,(fun e he=>absurd he (by simp)),fun _=>rfl⟩
 have I1:=I.laid (a:=s.heap.objs.size) (o:=.own (s.heap.objs.size + 1)) (h':=s.heap.push PySem.W.emptyDict) (t':=s.toks) (fun b u q=>Heap.get?_push_of_some _ q) (Nat.le_refl _) ⟨_,e1⟩
 refine I1.laid (a:=s.heap.objs.size + 1) (o:=.ins C s.heap.objs.size []) (t':=s.toks) (fun b u q=>Heap.get?_push_of_some _ q) (Nat.le_of_eq (Heap.size_push _ _)) ?_
 have ne:s.heap.objs.size ≠ s.heap.objs.size + 1:=Nat.ne_of_lt (Nat.lt_succ_self _)
 refine ⟨by rw [Bg ne,Bk],Nat.zero_le _,ne,e2,fun _=>none,(Heap.Ns1.of_empty e3).at fun o q=>Heap.get?_push_of_some _ q,fun _=>True.intro,fun y hy=>absurd rfl hy⟩
theorem AgO {prog:Program} {w:World} {env:Env} {e:Expr} {f:Str} {pos:Pos} {s:Shared} {Q:Value->Shared->Prop} (hb:attributeBase e f env (eval e env) = eval e env)
  (h:wpAny (model prog w) A (eval e env) (fun o s₁=>wpAny (model prog w) A (getAttr o f true) Q E s₁) E s):wpAny (model prog w) A (eval (.Attribute e f pos) env) Q E s :=
 Attribute_any_ h (by rw [arm_eval_Attribute,hb])
end
def Aiw (K:PySem.W.Frag) (ta:TE) (f:Str):TE:=fun σ H Q=>ta σ H fun x H1=>∃ a C dx fs v,x = .ref a/\H1 a = some (.ins C dx fs)/\Cls K C/\NoAttr K C f/\fs.lookup f = some v/\Q v H1
def Aiu (K:PySem.W.Frag) (ta tv:TE) (f:Str):TS:=fun D σ H=>tv σ H fun y H1=>ta σ H1 fun x H2=>∃ a C dx fs,x = .ref a/\H2 a = some (.ins C dx fs)/\Cls K C/\NoAttr K C f/\fs.length < 1000 /\
 D.nx σ (upd H2 a (.ins C dx (Br f y fs)))
section
variable {X:Cx} {o e value:Expr} {f:Str} {pos pos' tpos:Pos} {ta tv:TE}
theorem Op (he:PE X e ta) (hb:attributeBase e f X.env (eval e X.env) = eval e X.env):PE X (.Attribute e f pos) (Aiw X.K ta f):=by
 intro pins s σ H Q I h
 refine AgO hb (thn (he pins s σ H _ I h) fun u s1 ⟨x,H1,I1,rx,a,C,dx,fs,v,ex,ea,c,n,l,q⟩=>?_)
 subst ex
 obtain rfl:u = Value.ref a:=rx
 exact AbW I1 ea c n l fun u' s2 I2 ru=>⟨v,H1,I2,ru,q⟩
theorem Rz (ha:PE X o ta) (hv:PE X value tv) (hs:swapsWith value (some (.Attribute o f pos')) pos.line X.env = pure false):PS X (.Assign [.Attribute o f pos'] value pos) (Aiu X.K ta tv f):=by
 intro pins s σ H D I h
 refine plainObj_wpAny_Assign_Attribute (thn (hv pins s σ H _ I h) fun u s1 ⟨y,H1,I1,ry,q⟩=>thn (ha pins s1 σ H1 _ I1 q) fun ov s2 ⟨x,H2,I2,rx,a,C,dx,fs,ex,ea,c,n,l,q2⟩=>?_) hs
 subst ex
 obtain rfl:ov = Value.ref a:=rx
 exact Aa6 I2 ea c n l ry fun s3 I3=>⟨σ,_,I3,q2⟩
end
section
variable {X:Cx} {pins:List (Addr × Obj)} {σ:St} {H:Hp} {s:Shared} {A:Around} {E:Value->Shared->Prop} {Q:Value->Shared->Prop} {c:Value} {b:Bool}
inductive Gf (K:PySem.W.Frag) (H:Hp):V->Value->Prop where
 | non:Gf K H .non (.type "NoneType")
 | bl (x:Bool):Gf K H (.bl x) (.type "bool")
 | int (i:Int):Gf K H (.int i) (.type "int")
 | str (x:Str):Gf K H (.str x) (.type "str")
 | flt (x:UInt64):Gf K H (.flt x) (.type "float")
 | lst {a:Addr} {xs:List V} (e:H a = some (.lst xs)):Gf K H (.ref a) (.type "list")
 | frz {a:Addr} {o:Obj} {xs:List V} (e:H a = some (.frz o (.lst xs))):Gf K H (.ref a) (.type "list")
 | tup {a:Addr} {xs:List V} (e:H a = some (.tup xs)):Gf K H (.ref a) (.type "tuple")
 | dK {a:Addr} {kvs:List (Key × V)} (e:H a = some (.dK kvs)):Gf K H (.ref a) (.type "dict")
 | dT {a:Addr} {kvs:List (List Key × V)} (e:H a = some (.dT kvs)):Gf K H (.ref a) (.type "dict")
 | ins {a C dx:Addr} {fs:List (Str × V)} (e:H a = some (.ins C dx fs)) (cl:Cls K C) (ha:PySem.W.findIn K (.ref C) "__class__" = some (some (.builtin "object.__class__")))
   (hn:PySem.W.specialIn K (.builtin "object.__class__") "__get__" = some (some (.builtin "getset_descriptor.__get__"))) (htk:PySem.W.takesIn K (.builtin "object.__class__") = some true)
   (hm:PySem.W.mroIn K C (.type "object") = some true):Gf K H (.ref a) (.ref C)
theorem AcD {x:V} {u t:Value} (I:Inv X pins σ H s) (rx:RelV x u) (ty:Gf X.K H x t) (e:PySem.W.kitOne X.K t c = some b) (h:∀ tk,Q (.bool b) { s with toks:=tk }) :
  wpAny (model X.prog X.w) A (call (.builtin "isinstance") [u,c]) Q E s:=by
 cases ty with
 | non=>cases (show u = Value.none from rx); exact PySem.W.kia_one PySem.W.kitx_none I.kIn True.intro e (fun z=>nomatch z) h
 | bl y=>cases (show u = Value.bool y from rx); exact PySem.W.kia_one PySem.W.kitx_bool I.kIn True.intro e (fun z=>nomatch z) h
 | int i=>obtain ⟨t,q⟩:=(show ∃ t,u = Value.int i t from rx); cases q; exact PySem.W.kia_one PySem.W.kitx_int I.kIn True.intro e (fun z=>nomatch z) h
 | str y=>obtain ⟨t,q⟩:=(show ∃ t,u = Value.str y t from rx); cases q; exact PySem.W.kia_one PySem.W.kitx_str I.kIn True.intro e (fun z=>nomatch z) h
 | flt y=>obtain ⟨t,q⟩:=(show ∃ t,u = Value.float y t from rx); cases q; exact PySem.W.kia_one PySem.W.kitx_float I.kIn True.intro e (fun z=>nomatch z) h
 | @lst a xs ea =>
  cases (show u = Value.ref a from rx)
  obtain ⟨_,_,n,_,h1⟩:=(show ObjOk X.prog X.w H s.heap a (.lst xs) from I.hok a _ ea)
  exact PySem.W.kia_one PySem.W.kitx_list I.kIn ⟨_,h1,rfl⟩ e (fun z=>nomatch z) h
 | @frz a ob xs ea =>
  cases (show u = Value.ref a from rx)
  obtain ⟨_,_,_,n,_,h1⟩:=(show ObjOk X.prog X.w H s.heap a (.frz ob (.lst xs)) from I.hok a _ ea)
  exact PySem.W.kia_one PySem.W.kitx_list I.kIn ⟨_,h1,rfl⟩ e (fun z=>nomatch z) h
 | @tup a xs ea =>
  cases (show u = Value.ref a from rx)
  obtain ⟨_,_,_,p⟩:=(show ObjOk X.prog X.w H s.heap a (.tup xs) from I.hok a _ ea)
  obtain ⟨o,h1,h2,_⟩:=p
  exact PySem.W.kia_one PySem.W.kitx_tuple I.kIn ⟨o,h1,h2⟩ e (fun z=>nomatch z) h
 | @dK a kvs ea =>
  cases (show u = Value.ref a from rx)
  obtain ⟨_,_,vs,_,p⟩:=(show ObjOk X.prog X.w H s.heap a (.dK kvs) from I.hok a _ ea)
  obtain ⟨o,es,ep,h1,h2,_⟩:=p
  exact PySem.W.kia_one PySem.W.kitx_dict I.kIn ⟨o,h1,h2.1⟩ e (fun z=>nomatch z) h
 | @dT a kvs ea =>
  cases (show u = Value.ref a from rx)
  obtain ⟨_,_,xs,_,o,es,ep,h1,h2,_⟩:=(show ObjOk X.prog X.w H s.heap a (.dT kvs) from I.hok a _ ea)
  exact PySem.W.kia_one PySem.W.kitx_dict I.kIn ⟨o,h1,h2.1⟩ e (fun z=>nomatch z) h
 | @ins a C dx fs ea cl ha hn htk hm =>
  cases (show u = Value.ref a from rx)
  obtain ⟨mA,O,_⟩:=Tl I.hok ea
  obtain ⟨od,J,_⟩:=O.look
  exact PySem.W.kia_one (PySem.W.kitx_own (cl.get _) cl.hd ha hn htk hm) I.kIn J e (fun z=>nomatch z) h
end
end L2
namespace L2
open PySem PySem.Spec PyProof.Rows
structure Room (k:Nat) (A:Around):Prop where
 hd:A.handled = none
 dp:A.depth + 3 * k + 5 < recursionLimit
 un:A.units + 16 * k + 200 < cLine
theorem Room.mono {j k:Nat} {A:Around} (r:Room k A) (h:j <= k):Room j A:=⟨r.hd,by have:=r.dp; omega,by have:=r.un; omega⟩
theorem Room.deeper {k:Nat} {A:Around} (r:Room (k + 1) A) (env:Env):Room k (A.deeper env) :=
 ⟨r.hd,by have:=r.dp; show A.depth + 1 + 3 * k + 5 < _; omega,by have:=r.un; show A.units + 3 + 16 * k + 200 < _; omega⟩
theorem Abh {A:Around} {C:Addr} {us:List Value} {kw:List (Str × Value)}:(A.under (.builtin "type.__call__" ⟨.ref C :: us,kw⟩)).depth = A.depth + 1:=by
 first | rfl | simp [Around.under,Code.weight,Code.isCreation,Code.isGuard,Code.isCaller,Code.frames,Code.isFrame,guardIds]
theorem Abj {A:Around} {C:Addr} {us:List Value} {kw:List (Str × Value)}:(A.under (.builtin "type.__call__" ⟨.ref C :: us,kw⟩)).units = A.units + 1:=by
 first | rfl | simp [Around.under,Code.cUnits,Code.frames,Code.isFrame]
theorem Room.make {k:Nat} {A:Around} (r:Room (k + 1) A) (C:Addr) (us:List Value) (kw:List (Str × Value)):Room k (A.under (.builtin "type.__call__" ⟨.ref C :: us,kw⟩)) :=
 ⟨r.hd,by have:=r.dp; rw [Abh]; omega,by have:=r.un; rw [Abj]; omega⟩
theorem Room.depth {k:Nat} {A:Around} (r:Room k A):A.depth < recursionLimit:=by have:=r.dp; omega
theorem Room.units {k:Nat} {A:Around} (r:Room k A):A.units + 64 < cLine:=by have:=r.un; omega
def Qj:TA:=fun _ H Q=>Q [] H
def Jo (ta:TE) (tr:TA):TA:=fun σ H Q=>ta σ H fun x H1=>tr σ H1 fun xs H2=>Q (x :: xs) H2
section
variable {X:Cx} {e:Expr} {es:List Expr} {te:TE} {t:TA} {pos:Pos}
theorem Bb:PA X [] Qj:=fun _ _ _ _ H Q I h=>Calls.spliced_nil ⟨[],H,I,.nil,h⟩
theorem Ba (ha:PE X e te) (hr:PA X es t) (hs:starEach (e :: es) X.env = (false,eval e X.env) :: starEach es X.env:=by rfl):PA X (e :: es) (Jo te t):=by
 intro pos pins s σ H Q I h
 rw [hs]
 show wpAny _ _ (spliced ((false,eval e X.env) :: backTo pos (starEach es X.env))) _ _ s
 refine Calls.spliced_cons (thn (ha pins s σ H _ I h) fun u s1 ⟨x,H1,I1,r1,q1⟩=>?_)
 exact thn (hr pos pins s1 σ H1 _ I1 q1) fun us s2 ⟨xs,H2,I2,r2,q2⟩=>⟨x :: xs,H2,I2,.cons r1 r2,q2⟩
def AhH (t:TA):TE:=fun σ H Q=>t σ H fun xs H1=>xs.length <= sizeLine/\∀ p,H1 p = none->Q (.ref p) (upd H1 p (.tup xs))
theorem Acu {x1} (h:PA X es t):PE X (.Tuple es x1 pos) (AhH t):=by
 intro pins s σ H Q I hq
 refine wpAny_Tuple_spliced (thn (h pos pins s σ H _ I hq) fun us s1 ⟨xs,H1,I1,r,z,q⟩=>⟨by rw [<- r.length]; exact z,?_⟩)
 have hf:H1 s1.heap.objs.size = none:=I1.hok.fresh (Nat.le_refl _)
 refine ⟨.ref s1.heap.objs.size,upd H1 s1.heap.objs.size (.tup xs),I1.laid (t':=s1.toks) (fun b u e=>Heap.get?_push_of_some _ e) (Nat.le_refl _) ?_,rfl,q _ hf⟩
 exact ⟨z,us,r,⟨_,Heap.get?_push_size _ rfl,rfl,_,rfl⟩⟩
end
abbrev Sp:=List V->Hp->VK->XK->Prop
abbrev CXT:=List Env->Hp->Shared->XK->Value->Shared->Prop
structure Env0 (P:Program) (w:World) (K:PySem.W.Frag) (mg:Str->Option Value) (base:Heap) (A:Around) (outer:List Env) (s:Shared) (H:Hp):Prop where
 frames:A.frames = some outer
 mod:Mod K mg base
 bs:∀ b o,base.get? b = some o->s.heap.get? b = some o/\H b = none
 bsz:base.objs.size <= s.heap.objs.size
 funs:s.heap.FunFrames base outer
 frf:∀ b ∈ frs outer,H b = none
 hok:HOk P w H s.heap
 bare:AllBare s.gens
def CE (outer:List Env) (P:Program) (w:World) (H:Hp) (s:Shared) (Q:VK) (u:Value) (s':Shared):Prop :=
 ∃ v H',s'.os = s.os/\AllBare s'.gens/\Un (frs outer) [] H H' s.heap s'.heap/\HOk P w H' s'.heap/\RelV v u/\Q v H'
def CR (CX:CXT) (outer:List Env) (P:Program) (w:World) (H:Hp) (s:Shared) (Q:VK) (E:XK) (r:Result) (s':Shared):Prop :=
 match r with
 | .ok (.ret u)=>CE outer P w H s Q u s'
 | .ok _=>False
 | .error e=>CX outer H s E e s'
structure FnOk (P:Program) (w:World) (K:PySem.W.Frag) (mg:Str->Option Value) (base:Heap) (CX:CXT) (k:Nat) (f:Addr) (fd:FuncData) (ps:List Str) (sp:Sp):Prop where
 len:∀ vs H Q E,sp vs H Q E->vs.length = ps.length
 run:∀ (A:Around) (outer:List Env) (s:Shared) (H:Hp) (args:Args) (us:List Value) (vs:List V) (Q:VK) (E:XK),Room k A->Env0 P w K mg base A outer s H->BindsTo s fd args (ps.zip us)->Vals vs us->sp vs H Q E ->
  codeAny (model P w) A (.call (.ref f) args) (CR CX outer P w H s Q E) s
theorem FnOk.imp {P:Program} {w:World} {K:PySem.W.Frag} {mg:Str->Option Value} {base:Heap} {CX:CXT} {k:Nat} {f:Addr} {fd:FuncData} {ps:List Str} {sp sp':Sp} (F:FnOk P w K mg base CX k f fd ps sp)
  (h:∀ vs H Q E,sp' vs H Q E->sp vs H Q E):FnOk P w K mg base CX k f fd ps sp' :=
 ⟨fun vs H Q E q=>F.len vs H Q E (h _ _ _ _ q),fun A outer s H args us vs Q E hr he hb hv hs=>F.run A outer s H args us vs Q E hr he hb hv (h _ _ _ _ hs)⟩
theorem Env0.make {P:Program} {w:World} {K:PySem.W.Frag} {mg:Str->Option Value} {base:Heap} {A:Around} {outer:List Env} {s:Shared} {H:Hp} (e:Env0 P w K mg base A outer s H) (C:Addr) (us:List Value) (kw:List (Str × Value)) :
  Env0 P w K mg base (A.under (.builtin "type.__call__" ⟨.ref C :: us,kw⟩)) outer s H:=⟨by first | exact e.frames | (simpa [Around.under,Code.envs,Code.isFrame,pushEnvs] using e.frames),e.mod,e.bs,e.bsz,e.funs,e.frf,e.hok,e.bare⟩
section
variable {X:Cx} {pins:List (Addr × Obj)} {σ:St} {H:Hp} {s s':Shared}
theorem Inv.env0 (I:Inv X pins σ H s):Env0 X.prog X.w X.K X.mg X.base X.A X.stack s H :=
 ⟨I.ok.frames,I.ok.mod,I.bs,Nat.le_trans I.ok.bsz I.sz,I.stack,I.stkFree,I.hok,I.bare⟩
theorem Inv.after {Q:VK} {u:Value} (I:Inv X pins σ H s) (h:CE X.stack X.prog X.w H s Q u s'):EP X pins σ Q u s':=by
 obtain ⟨v,H',os,bare,un,hok,r,q⟩:=h
 obtain ⟨hh,g,d,t,os'⟩:=s'
 obtain rfl:os' = s.os:=os
 exact ⟨v,H',I.call (h':=hh) (g':=g) (d':=d) (t':=t) (ch:=[]) un hok bare (fun b z=>absurd z (by simp)),r,q⟩
end
def Ob (sp:Sp) (dvs:List V) (E:XK) (t:TA):TE:=fun σ H Q=>t σ H fun vs H1=>sp (vs ++ dvs) H1 Q E
def Sy (C:Addr) (m:Str) (sp:Sp) (dvs:List V) (E:XK) (ta:TE) (t:TA):TE:=fun σ H Q=>ta σ H fun x H1=>∃ a dx fs,x = .ref a/\H1 a = some (.ins C dx fs)/\fs.lookup m = none /\
 t σ H1 fun vs H2=>sp (x :: (vs ++ dvs)) H2 Q E
def Afl (C:Addr) (sp:Sp) (dvs:List V) (E:XK) (t:TA):TE:=fun σ H Q=>t σ H fun vs H1=>∀ x dx,H1 x = none->H1 dx = none->dx ≠ x ->
 sp (.ref x :: (vs ++ dvs)) (upd (upd H1 dx (.own x)) x (.ins C dx [])) (fun v H2=>v = .non/\Q (.ref x) H2) E
def Binds (K:PySem.W.Frag) (fd:FuncData) (ps:List Str) (ds:List Value):Prop :=
 ∀ (s:Shared) (us:List Value),K.In s.heap->(us ++ ds).length = ps.length->BindsTo s fd ⟨us,[]⟩ (ps.zip (us ++ ds))
theorem Binds.all {K:PySem.W.Frag} {fd:FuncData} {ps:List Str} (h:∀ us:List Value,us.length = ps.length->bindArgs fd ⟨us,[]⟩ = pure (ps.zip us)):Binds K fd ps []:=fun s us _ hl=>by
 rw [List.append_nil] at hl ⊢
 exact .of_eq (h us hl)
def Ov (CX:CXT) (X:Cx) (E:XK):Prop:=∀ (pins:List (Addr × Obj)) (σ:St) (H:Hp) (s:Shared) (e:Value) (s':Shared),Inv X pins σ H s->CX X.stack H s E e s'->X.xe e s'
section
variable {X:Cx} {CX:CXT} {k:Nat} {f C:Addr} {fd:FuncData} {ps:List Str} {sp:Sp} {dvs:List V} {ds:List Value} {E:XK} {x m:Str} {p pos apos:Pos} {e o:Expr} {es:List Expr} {ta:TE} {t:TA}
theorem Adm {pins:List (Addr × Obj)} {σ:St} {H:Hp} {s:Shared} {Q:VK} {us:List Value} {vs:List V} (F:FnOk X.prog X.w X.K X.mg X.base CX k f fd ps sp) (hr:Room k X.A) (hb:Binds X.K fd ps ds) (hd:Vals dvs ds) (hx:Ov CX X E)
  (I:Inv X pins σ H s) (r:Vals vs us) (h:sp (vs ++ dvs) H Q E):wpAny (model X.prog X.w) X.A (call (.ref f) us) (EP X pins σ Q) X.xe s:=by
 have r2:Vals (vs ++ dvs) (us ++ ds):=r.append hd
 have hl:(us ++ ds).length = ps.length:=by rw [<- r2.length]; exact F.len _ _ _ _ h
 refine wpAny_call (codeAny_mono (F.run X.A X.stack s H ⟨us,[]⟩ (us ++ ds) (vs ++ dvs) Q E hr I.env0 (hb s us I.kIn hl) r2 h) fun r s' hq=>?_)
 cases r with
 | error e=>exact hx pins σ H s e s' I hq
 | ok fl =>
  cases fl with
  | ret u=>exact I.after hq
  | next=>exact False.elim hq
  | brk=>exact False.elim hq
  | cont=>exact False.elim hq
theorem Bo (F:FnOk X.prog X.w X.K X.mg X.base CX k f fd ps sp) (hr:Room k X.A) (hg:Gl X x) (hm:X.mg x = some (.ref f)) (hk:PySem.W.keepIn X.K (.ref f) = true) (hb:Binds X.K fd ps ds) (hd:Vals dvs ds) (hx:Ov CX X E)
  (ha:PA X (e :: es) t) (hdb:(x == ("__debug__" : Str)) = false:=by decide) (he:starEach (e :: es) X.env = (false,eval e X.env) :: starEach es X.env:=by rfl) (hpl:(backTo pos (starEach es X.env)).any (·.1) = false:=by rfl) :
  PE X (.Call (.Name x p) (e :: es) [] pos) (Ob sp dvs E t):=by
 intro pins s σ H Q I h
 refine wpAny_Call_Name_kw (Ng I hg hm ?_ hdb)
 refine PySem.W.callWith_K (h₀:=X.base) I.ok.mod.kin hk (thn (ha pos pins s σ H _ I h) fun us s1 ⟨vs,H1,I1,r,q⟩=>⟨I1.kIn,?_⟩) he hpl
 exact Adm F hr hb hd hx I1 r q
theorem Nb {pl:Sem Bool} (he:PE X o ta) (c:Cls X.K C) (hm:Vp X.K C m f) (F:FnOk X.prog X.w X.K X.mg X.base CX k f fd ps sp) (hr:Room k X.A) (hb:Binds X.K fd ps ds) (hd:Vals dvs ds) (hx:Ov CX X E) (ha:PA X (e :: es) t)
  (hst:starEach (e :: es) X.env = (false,eval e X.env) :: starEach es X.env:=by rfl) (hpl:(backTo pos (starEach es X.env)).any (·.1) = false:=by rfl)
  (ht:eval (.Call (.Attribute o m apos) (e :: es) [] pos) X.env = (do
   let ov <- eval o X.env
   standAt apos.atName
   let (f,first) <- holding [ov] (getMethod ov m pl)
   callWith pos f first (backTo pos (starEach (e :: es) X.env)) (backToKw pos (keywordEach [] X.env))):=by rfl) :
  PE X (.Call (.Attribute o m apos) (e :: es) [] pos) (Sy C m sp dvs E ta t):=by
 intro pins s σ H Q I h
 refine PySem.W.methodCall_KW (pl:=pl) (thn (he pins s σ H _ I h) fun u s1 ⟨x,H1,I1,rx,a,dx,fs,ex,ea,l,q⟩=>?_) ht
 subst ex
 obtain rfl:u = Value.ref a:=rx
 refine AbC I1 ea c hm l ?_
 refine PySem.W.callWith_K (first:=[.ref a]) (h₀:=X.base) I.ok.mod.kin hm.kp (thn (ha pos pins s1 σ H1 _ I1 q) fun us s2 ⟨vs,H2,I2,r,q2⟩=>⟨I2.kIn,?_⟩) hst hpl
 exact Adm (us:=.ref a :: us) (vs:=.ref a :: vs) F hr hb hd hx I2 (.cons rfl r) q2
structure Mk (K:PySem.W.Frag) (C f:Addr):Prop where
 makes:PySem.W.makesIn K C = true
 init:PySem.W.findIn K (.ref C) "__init__" = some (some (.ref f))
 fn:PySem.W.isFn K (.ref f) = true
 kp:PySem.W.keepIn K (.ref C) = true
theorem Aes {pins:List (Addr × Obj)} {σ:St} {H:Hp} {s:Shared} {Q:VK} {us:List Value} {vs:List V} (M:Mk X.K C f) (F:FnOk X.prog X.w X.K X.mg X.base CX k f fd ps sp) (hr:Room (k + 1) X.A) (hb:Binds X.K fd ps ds) (hd:Vals dvs ds)
  (hx:Ov CX X E) (I:Inv X pins σ H s) (r:Vals vs us)
  (h:∀ x dx,H x = none->H dx = none->dx ≠ x->sp (.ref x :: (vs ++ dvs)) (upd (upd H dx (.own x)) x (.ins C dx [])) (fun v H2=>v = .non/\Q (.ref x) H2) E) :
  wpAny (model X.prog X.w) X.A (call (.ref C) us) (EP X pins σ Q) X.xe s:=by
 have hq:=h (s.heap.objs.size + 1) s.heap.objs.size (I.hok.fresh (Nat.le_succ _)) (I.hok.fresh (Nat.le_refl _)) (Nat.ne_of_lt (Nat.lt_succ_self _))
 have I2:=Inv.made (C:=C) I
 have r2:Vals (V.ref (s.heap.objs.size + 1) :: (vs ++ dvs)) (Value.ref (s.heap.objs.size + 1) :: (us ++ ds)):=.cons rfl (r.append hd)
 have hl:(Value.ref (s.heap.objs.size + 1) :: us ++ ds).length = ps.length:=by
  have e:=r2.length
  rw [F.len _ _ _ _ hq] at e
  exact e.symm
 refine wpAny_call (Aep (f:=f) I.kIn M.makes M.init (beq_iff_eq.mp M.fn) (codeAny_mono (F.run _ X.stack _ _ ⟨Value.ref (s.heap.objs.size + 1) :: us,[]⟩ (Value.ref (s.heap.objs.size + 1) :: (us ++ ds)) _ _ E (hr.make C us [])
  (I2.env0.make C us []) (hb _ (Value.ref (s.heap.objs.size + 1) :: us) I2.kIn hl) r2 hq) fun r s' hq'=>?_))
 cases r with
 | error e=>exact hx pins σ _ _ e s' I2 hq'
 | ok fl =>
  cases fl with
  | ret u =>
   obtain ⟨v,H',I3,rv,ev,q3⟩:=I2.after hq'
   subst ev
   exact ⟨rv,⟨V.ref (s.heap.objs.size + 1),H',I3,rfl,q3⟩⟩
  | next=>exact False.elim hq'
  | brk=>exact False.elim hq'
  | cont=>exact False.elim hq'
theorem Ago (M:Mk X.K C f) (F:FnOk X.prog X.w X.K X.mg X.base CX k f fd ps sp) (hr:Room (k + 1) X.A) (hg:Gl X x) (hm:X.mg x = some (.ref C)) (hb:Binds X.K fd ps ds) (hd:Vals dvs ds) (hx:Ov CX X E)
  (ha:PA X (e :: es) t) (hdb:(x == ("__debug__" : Str)) = false:=by decide) (he:starEach (e :: es) X.env = (false,eval e X.env) :: starEach es X.env:=by rfl) (hpl:(backTo pos (starEach es X.env)).any (·.1) = false:=by rfl) :
  PE X (.Call (.Name x p) (e :: es) [] pos) (Afl C sp dvs E t):=by
 intro pins s σ H Q I h
 refine wpAny_Call_Name_kw (Ng I hg hm ?_ hdb)
 refine PySem.W.callWith_K (h₀:=X.base) I.ok.mod.kin M.kp (thn (ha pos pins s σ H _ I h) fun us s1 ⟨vs,H1,I1,r,q⟩=>⟨I1.kIn,?_⟩) he hpl
 exact Aes M F hr hb hd hx I1 r q
end
section
variable {X:Cx} {CX:CXT} {k:Nat} {f C:Addr} {fd:FuncData} {ps ks:List Str} {sp:Sp} {E:XK} {x m:Str} {p pos apos kpos:Pos} {e o:Expr} {es:List Expr} {kws:List Keyword} {te ta:TE} {t tk:TA} {nm:Option Str}
variable {g:List Value->List Value->List Value} {gV:List V->List V->List V}
end
structure Ca (N P:List Str) (sc:Scope):Prop where
 kind:sc.kind = .function
 co:sc.isCoroutine = false
 gen:sc.isGenerator = false
 nd:N.Nodup
 pre:N.take P.length = P
 par:∀ x ∈ P,sc.names.lookup x = some .local\/sc.names.lookup x = some .cell
 nofree:∀ y ∈ sc.names,y.2 ≠ .free
theorem Wg {kindOf:Str->Option NameKind} {x:Str}:∀ {binds:List (Str × Value)} {m:Str->Option Value},(∀ v,(x,v) ∉ binds)->bindL kindOf binds m x = m x
 | [],_,_=>rfl
 | (n,v) :: r,m,h=>by
  unfold bindL
  rw [Wg fun w hw=>h w (List.mem_cons_of_mem _ hw)]
  split
  ·have:x ≠ n:=by rintro rfl; exact h v List.mem_cons_self
   simp [this]
  ·rfl
theorem Wy {kindOf:Str->Option NameKind} {x:Str}:∀ {binds:List (Str × Value)} {m:Str->Option Value},(∀ v,(x,v) ∉ binds)->bindC kindOf binds m x = m x
 | [],_,_=>rfl
 | (n,v) :: r,m,h=>by
  unfold bindC
  rw [Wy fun w hw=>h w (List.mem_cons_of_mem _ hw)]
  split
  ·rfl
  ·have:x ≠ n:=by rintro rfl; exact h v List.mem_cons_self
   simp [this]
theorem Wm {kindOf:Str->Option NameKind} {x:Str} {v:Value}:∀ {P:List Str} {vs:List Value} {i:Nat} {m:Str->Option Value},P.Nodup->P[i]? = some x->vs[i]? = some v->kindOf x = some .local ->
  bindL kindOf (P.zip vs) m x = some v
 | [],_,_,_,_,h,_,_=>by simp at h
 | _ :: _,[],_,_,_,_,h,_=>by simp at h
 | p :: P,w :: vs,0,m,nd,h1,h2,hk=>by
  simp at h1 h2; subst h1; subst h2
  show bindL kindOf ((p,w) :: P.zip vs) m p = _
  unfold bindL
  rw [Wg fun v hv=>(List.nodup_cons.mp nd).1 (List.of_mem_zip hv).1,if_pos hk]
  simp
 | p :: P,w :: vs,i + 1,m,nd,h1,h2,hk=>by
  show bindL kindOf ((p,w) :: P.zip vs) m x = _
  unfold bindL
  exact Wm (i:=i) (List.nodup_cons.mp nd).2 (by simpa using h1) (by simpa using h2) hk
theorem Wi {kindOf:Str->Option NameKind} {x:Str} {v:Value}:∀ {P:List Str} {vs:List Value} {i:Nat} {m:Str->Option Value},P.Nodup->P[i]? = some x->vs[i]? = some v->kindOf x ≠ some .local ->
  bindC kindOf (P.zip vs) m x = some v
 | [],_,_,_,_,h,_,_=>by simp at h
 | _ :: _,[],_,_,_,_,h,_=>by simp at h
 | p :: P,w :: vs,0,m,nd,h1,h2,hk=>by
  simp at h1 h2; subst h1; subst h2
  show bindC kindOf ((p,w) :: P.zip vs) m p = _
  unfold bindC
  rw [Wy fun v hv=>(List.nodup_cons.mp nd).1 (List.of_mem_zip hv).1,if_neg hk]
  simp
 | p :: P,w :: vs,i + 1,m,nd,h1,h2,hk=>by
  show bindC kindOf ((p,w) :: P.zip vs) m x = _
  unfold bindC
  exact Wi (i:=i) (List.nodup_cons.mp nd).2 (by simpa using h1) (by simpa using h2) hk
def Nx (N:List Str) (vs:List V):St:=vs.map some ++ List.replicate (N.length - vs.length) none
def Ju (CX:CXT) (P:Program) (w:World) (K:PySem.W.Frag) (mg:Str->Option Value) (base:Heap) (N:List Str) (qual:Str) (scope:Scope) (f:Addr) (cd:Value) (A:Around) (outer:List Env) (s:Shared) (H:Hp) (E:XK):Cx where
 prog:=P
 w:=w
 K:=K
 mg:=mg
 base:=base
 A:=A.deeper (envOfC qual scope s.heap.objs.size f cd)
 N:=N
 s₀:=s
 H₀:=H
 env:=envOfC qual scope s.heap.objs.size f cd
 outer:=outer
 stack:=envOfC qual scope s.heap.objs.size f cd :: outer
 ex:=[]
 calm:=true
 fn:=fun _=>true
 pn:=[]
 xe:=fun e s'=>wpAny (model P w) (A.deeper (envOfC qual scope s.heap.objs.size f cd)) (leaving (envOfC qual scope s.heap.objs.size f cd) e) (fun _ s''=>CX outer H s E e s'') (fun e' s''=>CX outer H s E e' s'') s'
theorem Yu {sc:Scope} {n:Nat} {x:Str} (h:sc.names.lookup x = some .cell):∃ c,(cellsFrom n sc.names []).lookup x = some c:=by
 have q:=PySem.W.cellsFrom_some sc.names n [] (.inl h)
 exact Option.isSome_iff_exists.mp q
theorem Acx {CX:CXT} {P:Program} {w:World} {K:PySem.W.Frag} {mg:Str->Option Value} {base:Heap} {N ps:List Str} {qual:Str} {scope:Scope} {f:Addr} {cd:Value} {A:Around} {outer:List Env} {s s1:Shared} {H:Hp} {E:XK} {us:List Value} {vs:List V}
  (S:Ca N ps scope) (hd:A.handled = none) (e0:Env0 P w K mg base A outer s H) (hl:vs.length = ps.length) (r:Vals vs us)
  (x:InCallC s s.heap.objs.size (bindL (envOfC qual scope s.heap.objs.size f cd).kindOf (ps.zip us) fun _=>none) (cellsFrom (s.heap.objs.size + 1) scope.names []) (bindC (envOfC qual scope s.heap.objs.size f cd).kindOf (ps.zip us) fun _=>none) s1) :
  Inv (Ju CX P w K mg base N qual scope f cd A outer s H E) [] (Nx N vs) H s1:=by
 have hpl:ps.length <= N.length:=by have:=congrArg List.length S.pre; rw [List.length_take] at this; omega
 obtain ⟨h1,tk,rfl,hk⟩:=x.done
 have noA:∀ b:Addr,b ∉ (Ju CX P w K mg base N qual scope f cd A outer s H E).ex:=fun b z=>absurd (show b ∈ ([]:List Addr) from z) (by simp)
 refine ⟨⟨e0.mod,S.kind,rfl,rfl,Nat.le_refl _,fun y z c h1 h2=>?_,fun y hy=>?_,fun y c _ h=>?_,fun _=>hd,Around.frames_deeper e0.frames,.inr ⟨rfl,rfl⟩,fun b z=>absurd z (noA b),e0.bs,e0.bsz,fun b _ _=>noA b,fun b z=>absurd z (noA b),e0.funs,e0.frf⟩,
  rfl,e0.bare,Un.kept hk,⟨_,x.toInCall.ns,fun i y v h1 h2 h3=>?_⟩,fun y c h=>⟨_,x.cell y c h⟩,e0.hok.fresh (Nat.le_refl _),fun y c h=>?_,fun p hp=>absurd (show p ∈ ([]:List (Addr × Obj)) from hp) (by simp),e0.hok.kept hk,?_⟩
 ·exact name_of_addr x.apart (PySem.mem_of_lookup h1) (PySem.mem_of_lookup h2)
 ·have hy:scope.names.lookup y = some .cell\/scope.names.lookup y = some .free:=hy
  rcases hy with hy | hy
  ·exact Yu hy
  ·exact absurd rfl (S.nofree _ (PySem.mem_of_lookup hy))
 ·exact Nat.le_of_lt (x.above y c (PySem.mem_of_lookup h))
 ·have hi:i < vs.length:=by
   unfold Nx at h2
   by_cases hi:i < vs.length
   ·exact hi
   ·rw [List.getElem?_append_right (by simpa using hi)] at h2
    rw [List.getElem?_replicate] at h2
    split at h2 <;> cases h2
  have ha:vs[i]? = some v:=by
   unfold Nx at h2
   rw [List.getElem?_append_left (by simpa using hi),List.getElem?_map] at h2
   cases e:vs[i]? with
   | none=>rw [e] at h2; cases h2
   | some a=>rw [e] at h2; cases h2; rfl
  obtain ⟨u,hu,rv⟩:=r.get ha
  have hp:ps[i]? = some y:=by
   rw [<- S.pre,List.getElem?_take_of_lt (by omega)]; exact h1
  have ndP:ps.Nodup:=by rw [<- S.pre]; exact S.nd.sublist (List.take_sublist _ _)
  refine ⟨u,rv,?_⟩
  rcases S.par y (List.mem_of_getElem? hp) with k | k
  ·exact .inl ⟨k,Wm ndP hp hu k⟩
  ·obtain ⟨c,e⟩:=Yu (n:=s.heap.objs.size + 1) k
   refine .inr ⟨.inl k,c,e,?_⟩
   have q:=x.cell y c e
   rw [Wi ndP hp hu (by show scope.names.lookup y ≠ _; rw [k]; decide)] at q
   exact q
 ·exact e0.hok.fresh (Nat.le_of_lt (x.above y c (PySem.mem_of_lookup h)))
 ·unfold Nx
  show _ = N.length
  rw [List.length_append,List.length_map,List.length_replicate]
  omega
theorem Aj5 {CX:CXT} {P:Program} {w:World} {K:PySem.W.Frag} {mg:Str->Option Value} {base:Heap} {k:Nat} {f:Addr} {name qual:Str} {params:Arguments} {body:List Stmt} {scope:Scope} {dV kV doc pm cdv ct oc:Value} {an od:Option Addr}
  {osl:Array (Option Value)} {N ps:List Str} {sp:Sp} (lk:K.lookup f = some ⟨oc,od,.func (PySem.W.fnOf name qual params body scope dV kV doc pm an cdv ct),osl⟩) (hcd:PySem.W.codeIn K cdv qual = true) (S:Ca N ps scope)
  (len:∀ vs H Q E,sp vs H Q E->vs.length = ps.length)
  (hbody:∀ (A:Around) (outer:List Env) (s:Shared) (H:Hp) (vs:List V) (Q:VK) (E:XK),Room k (A.deeper (envOfC qual scope s.heap.objs.size f cdv))->sp vs H Q E ->
   ∃ t,PSs (Ju CX P w K mg base N qual scope f cdv A outer s H E) body t/\t { nx:=fun _ H'=>Q .non H',rt:=Q } (Nx N vs) H) :
  FnOk P w K mg base CX (k + 1) f (PySem.W.fnOf name qual params body scope dV kV doc pm an cdv ct) ps sp:=by
 refine ⟨len,fun A outer s H args us vs Q E hr e0 hb r hsp=>?_⟩
 have hl:=len _ _ _ _ hsp
 have KX:K.In s.heap:=e0.mod.kin.keeps fun b o e=>(e0.bs b o e).1
 have lim:s.heap.NoLimit:=e0.mod.nolimit.keeps fun b o e=>(e0.bs b o e).1
 have hkind:∀ y ∈ ps.zip us,scope.names.lookup y.1 = some .local\/(scope.names.lookup y.1 = some .cell/\((cellsFrom (s.heap.objs.size + 1) scope.names []).lookup y.1).isSome = true):=fun ⟨n,v⟩ hy=>by
  rcases S.par n (List.of_mem_zip hy).1 with q | q
  ·exact .inl q
  ·exact .inr ⟨q,PySem.W.cellsFrom_some _ _ _ (.inl q)⟩
 refine codeAny_call_function hr.depth (KX _ _ lk) rfl S.co S.gen rfl (PySem.W.codeRec_of KX hcd) (hb _ _ _ _ ?_)
 refine wpAny_newFunctionEnv_cells S.kind hkind fun env he s1 x=>?_
 subst he
 refine ⟨lim.keeps x.toInCall.keep,codeAny_func ?_⟩
 obtain ⟨t,ht,hq⟩:=hbody A outer s H vs Q E (hr.deeper _) hsp
 have I:Inv (Ju CX P w K mg base N qual scope f cdv A outer s H E) [] (Nx N vs) H s1:=Acx S hr.hd e0 hl r x
 refine wpAny_mono (ht [] s1 (Nx N vs) H _ I hq) (fun fl s' hs=>?_) fun e s' hs=>hs
 have fin:∀ {σ':St} {H':Hp} {v:V} {u:Value},Inv (Ju CX P w K mg base N qual scope f cdv A outer s H E) [] σ' H' s'->RelV v u->Q v H'->CE outer P w H s Q u s' :=
  fun {σ' H' v u} J rv q=>⟨v,H',J.os,J.bare,J.base,J.hok,rv,q⟩
 cases fl with
 | ret u =>
  obtain ⟨v,σ',H',J,rv,q⟩:=hs
  exact fin J rv q
 | next =>
  obtain ⟨σ',H',J,q⟩:=hs
  exact fin (v:=V.non) (u:=Value.none) J rfl q
 | brk =>
  obtain ⟨_,_,_,q⟩:=hs
  exact False.elim q
 | cont =>
  obtain ⟨_,_,_,q⟩:=hs
  exact False.elim q
end L2
namespace L2
open PySem PySem.Spec PyProof.Rows
section
variable {X:Cx} {x:Str} {p pos:Pos} {e:Expr} {es:List Expr} {t:TA} {id T:String} {r:List V->Hp->VK->Prop}
def tCB (r:List V->Hp->VK->Prop) (t:TA):TE:=fun σ H Q=>t σ H fun vs H1=>r vs H1 Q
theorem Ck (hc:Gw X (.builtin id) r) (hg:Gl X x) (hm:X.mg x = none) (hv:bootBuiltins x = some (.builtin id)) (ha:PA X (e :: es) t) (hn:x ≠ "__name__":=by decide) (hdb:(x == ("__debug__" : Str)) = false:=by decide)
  (he:starEach (e :: es) X.env = (false,eval e X.env) :: starEach es X.env:=by rfl) (hpl:(backTo pos (starEach es X.env)).any (·.1) = false:=by rfl):PE X (.Call (.Name x p) (e :: es) [] pos) (tCB r t):=by
 intro pins s σ H Q I h
 refine wpAny_Call_Name_kw (No I hg hm hv ?_ hn hdb)
 exact PyProof.Rows.callWith_builtin1 (thn (ha pos pins s σ H _ I h) fun us s1 ⟨vs,H1,I1,r1,q1⟩=>hc pins s1 σ H1 vs us Q I1 r1 q1) he hpl
theorem Fz (hc:Gw X (.type T) r) (hg:Gl X x) (hm:X.mg x = none) (hv:bootBuiltins x = some (.type T)) (ha:PA X (e :: es) t) (hn:x ≠ "__name__":=by decide) (hdb:(x == ("__debug__" : Str)) = false:=by decide)
  (he:starEach (e :: es) X.env = (false,eval e X.env) :: starEach es X.env:=by rfl) (hpl:(backTo pos (starEach es X.env)).any (·.1) = false:=by rfl):PE X (.Call (.Name x p) (e :: es) [] pos) (tCB r t):=by
 intro pins s σ H Q I h
 refine wpAny_Call_Name_kw (No I hg hm hv ?_ hn hdb)
 exact PyProof.Rows.callWith_type1 (thn (ha pos pins s σ H _ I h) fun us s1 ⟨vs,H1,I1,r1,q1⟩=>hc pins s1 σ H1 vs us Q I1 r1 q1) he hpl
end
end L2
namespace HT
open PySem PyProof.Rows
section
open PySem.SeqAt
open PySem.AutoSeq1 (wpAny_loadPart')
open PySem.MeetsSeq PySem.MeetsSeq2 PySem.MeetsSeq3
end
section
variable {prog:Program} {w:World} {A:Around} {E:Value->Shared->Prop} {s:Shared}
def sIx (n d:Nat):Option Int->Nat
 | none=>d
 | some v=>if v < 0 then (v + (n:Int)).toNat else min v.toNat n
theorem sIx_none (n d:Nat):sIx n d none = d:=rfl
theorem sIx_nat (n d k:Nat):sIx n d (some (k:Int)) = min k n:=by
 show (if (k:Int) < 0 then ((k:Int) + (n:Int)).toNat else min (k:Int).toNat n) = min k n
 rw [if_neg (by omega),Int.toNat_natCast]
theorem Ahn (n d:Nat) (hd:d <= n) (o:Option Int):sIx n d o <= n:=by
 cases o with
 | none=>exact hd
 | some v =>
  show (if v < 0 then (v + (n:Int)).toNat else min v.toNat n) <= n
  by_cases hv:v < 0
  ·rw [if_pos hv]; omega
  ·rw [if_neg hv]; exact Nat.min_le_right _ _
theorem AaQ (v:Int) (n d:Nat):(if v < 0 then max (v + (n:Int)) 0 else min v (n:Int)) = ((sIx n d (some v):Nat):Int):=by
 show (if v < 0 then max (v + (n:Int)) 0 else min v (n:Int)) = (((if v < 0 then (v + (n:Int)).toNat else min v.toNat n):Nat):Int)
 by_cases hv:v < 0
 ·simp only [if_pos hv]; omega
 ·simp only [if_neg hv]; omega
theorem AbK (lo hi:Option Int) (n:Nat):Builtin.Slice.sliceAdjust lo hi 1 (n:Int) = (((sIx n 0 lo:Nat):Int),((sIx n n hi:Nat):Int)):=by
 have h1:¬ ((1:Int) < 0):=by omega
 unfold Builtin.Slice.sliceAdjust
 simp only [h1,if_false]
 refine Prod.ext ?_ ?_
 ·cases lo with
  | none=>rfl
  | some v=>exact AaQ v n 0
 ·cases hi with
  | none=>rfl
  | some v=>exact AaQ v n n
theorem Aa9 (i j:Nat):Builtin.Slice.slicePlaces (i:Int) (j:Int) 1 = j - i:=by
 unfold Builtin.Slice.slicePlaces
 have h1:(1:Int) > 0:=by omega
 simp only [h1,if_true,Int.ediv_one]
 split <;> omega
theorem Ue {v:Value} {o:Option Int} {Q:Option Int->Shared->Prop} (p:IsPart v o) (h:Q o s):wpAny (model prog w) A (Builtin.Slice.slicePartIndex v) Q E s:=by
 cases p with
 | none=>exact slicePart_none h
 | int i t=>exact slicePart_int h
theorem Tr {sl:Addr} {vl vu:Value} {lo hi:Option Int} {n:Nat} {Q:Int × Int × Nat->Shared->Prop} (hs:s.heap.IsSliceOf sl vl vu .none) (pl:IsPart vl lo) (pu:IsPart vu hi)
  (h:Q (((sIx n 0 lo:Nat):Int),1,sIx n n hi - sIx n 0 lo) s):wpAny (model prog w) A (Builtin.Slice.sliceApplied (.ref sl) (pure (n:Int))) Q E s:=by
 obtain ⟨os,hos,hcs,hds⟩:=id hs
 unfold Builtin.Slice.sliceApplied Builtin.Slice.sliceFields
 refine wpAny_bind (wpAny_bind (wpAny_field hos hds (x:=vl) rfl (wpAny_bind (wpAny_field hos hds (x:=vu) rfl (wpAny_bind (wpAny_field hos hds (x:=.none) rfl (wpAny_pure ?_)))))))
 refine wpAny_bind (slicePart_none ?_)
 show wpAny _ _ (if ((1:Int) == 0) = true then _ else _) _ _ s
 rw [if_neg (by decide)]
 refine wpAny_bind (Ue pl (wpAny_bind (Ue pu (wpAny_bind (wpAny_pure ?_)))))
 show wpAny _ _ (match Builtin.Slice.sliceAdjust lo hi 1 (n:Int) with | (lo,hi)=>pure (lo,(1:Int),Builtin.Slice.slicePlaces lo hi 1)) _ _ s
 rw [AbK lo hi n]
 show wpAny _ _ (pure (((sIx n 0 lo:Nat):Int),(1:Int),Builtin.Slice.slicePlaces ((sIx n 0 lo:Nat):Int) ((sIx n n hi:Nat):Int) 1)) _ _ s
 rw [Aa9]
 exact wpAny_pure h
theorem Aee (xs:Array Value) (i k:Nat):((List.range k).filterMap fun (m:Nat)=>xs[((i:Int) + (m:Int) * 1).toNat]?).toArray = ((xs.toList.drop i).take k).toArray:=by
 have e:(fun (m:Nat)=>xs[((i:Int) + (m:Int) * 1).toNat]?) = fun m=>xs[i + m]?:=by
  funext m
  have:((i:Int) + (m:Int) * 1).toNat = i + m:=by omega
  rw [this]
 rw [e]
 have:=pick_run xs i k
 rw [List.filterMap_map] at this
 have e2:((fun x=>xs[x]?) ∘ fun x=>i + x) = fun m=>xs[i + m]?:=rfl
 rw [e2] at this
 rw [this]
theorem getItem_tuple_cut {t sl:Addr} {items:Array Value} {vl vu:Value} {lo hi:Option Int} {Q:Value->Shared->Prop} (ht:IsTup s.heap t items) (hs:s.heap.IsSliceOf sl vl vu .none) (pl:IsPart vl lo) (pu:IsPart vu hi)
  (hw:¬ (sIx items.size 0 lo = 0/\sIx items.size items.size hi = items.size))
  (h:Q (.ref s.heap.objs.size) { s with heap:=s.heap.push { cls:=.type "tuple",data:=.seq ((items.toList.drop (sIx items.size 0 lo)).take (sIx items.size items.size hi - sIx items.size 0 lo)).toArray } })
  (hsz:items.size <= sizeLine):wpAny (model prog w) A (getItem (.ref t) (.ref sl)) Q E s:=by
 have htake:sizeOk (.seq ((items.toList.drop (sIx items.size 0 lo)).take (sIx items.size items.size hi - sIx items.size 0 lo)).toArray):=by
  show ((items.toList.drop (sIx items.size 0 lo)).take (sIx items.size items.size hi - sIx items.size 0 lo)).toArray.size <= sizeLine
  rw [List.size_toArray,List.length_take,List.length_drop,Array.length_toList]
  omega
 have hj:sIx items.size items.size hi <= items.size:=Ahn _ _ (Nat.le_refl _) hi
 obtain ⟨os,hos,hcs,hds⟩:=id hs
 have hTs:s.TypeIs (.ref sl) "slice":=⟨os,hos,hcs⟩
 unfold getItem
 try with_reducible refine wpAny_holding ?_
 first | refine wpAny_bind (wpAny_pure ?_) | skip
 refine wpAny_bind (wpAny_sequenceKey ht.typeIs (by decide) ?_)
 refine wpAny_bind (wpAny_callSpecial?_slot (name:=Str.ofString "__getitem__") ht.typeIs PyProof.Rows.slot_tuple_getitem
  (wpAny_call_entry PyProof.Rows.slot_tuple_getitem ht.typeIs entry_tuple_getitem ?_ (args_tuple_getitem _ _)))
 show wpAny _ _ (Builtin.Tuple.tupleItemsOf (.ref t) >>= _) _ _ s
 refine wpAny_bind (tupleItemsOf_ ht ?_)
 refine wpAny_bind (wpAny_typeOf hTs ?_)
 rw [if_pos (by decide)]
 refine wpAny_bind (Tr hs pl pu ?_)
 have hno:¬ ((((sIx items.size 0 lo:Nat):Int) == 0 && (1:Int) == 1 && (sIx items.size items.size hi - sIx items.size 0 lo) == items.size) = true):=by
  intro q
  rw [Bool.and_eq_true,Bool.and_eq_true] at q
  have q1:((sIx items.size 0 lo:Nat):Int) = 0:=eq_of_beq q.1.1
  have q2:sIx items.size items.size hi - sIx items.size 0 lo = items.size:=eq_of_beq q.2
  exact hw ⟨by omega,by omega⟩
 show wpAny _ _ (if (((sIx items.size 0 lo:Nat):Int) == 0 && (1:Int) == 1 && (sIx items.size items.size hi - sIx items.size 0 lo) == items.size) = true then _ else _) _ _ s
 rw [if_neg hno,Aee]
 first
  | exact wpAny_bind (m:=Builtin.Tuple.tupleExact _) (wpAny_newObj_type (wpAny_pure ⟨_,rfl,wpAny_pure h⟩) htake)
  | exact wpAny_bind (m:=Builtin.Tuple.tupleExact _) (wpAny_newObj_type (wpAny_bind (wpAny_pure (wpAny_pure ⟨_,rfl,wpAny_pure h⟩))) htake)
  | exact wpAny_bind (wpAny_bind (m:=Builtin.Tuple.tupleExact _) (wpAny_newObj_type (wpAny_pure (wpAny_pure ⟨_,rfl,wpAny_pure h⟩)) htake))
  | exact wpAny_bind (wpAny_bind (m:=Builtin.Tuple.tupleExact _) (wpAny_newObj_type (wpAny_pure ⟨_,rfl,wpAny_pure h⟩) htake))
end
end HT
namespace L2
open PySem PySem.Spec PyProof.Rows
abbrev TO:=St->Hp->(Option Int->Hp->Prop)->Prop
def PO (X:Cx) (e:Option Expr) (t:TO):Prop :=
 ∀ (pins:List (Addr × Obj)) (s:Shared) (σ:St) (H:Hp) (Q:Option Int->Hp->Prop),Inv X pins σ H s->t σ H Q ->
  wpAny (model X.prog X.w) X.A (evalPart e X.env) (fun u s'=>∃ o H',Inv X pins σ H' s'/\IsPart u o/\Q o H') X.xe s
def Vq:TO:=fun _ H Q=>Q none H
def Abw (t:TE):TO:=fun σ H Q=>t σ H fun x H1=>∃ i,x = .int i/\Q (some i) H1
section
variable {X:Cx} {e:Expr} {te:TE} {lo hi:Option Expr} {tl th:TO} {pos p2:Pos}
theorem Fj:PO X none Vq:=by
 intro pins s σ H Q I h
 rw [evalPart_none]
 exact wpAny_pure ⟨none,H,I,.none,h⟩
theorem Dl (h:PE X e te):PO X (some e) (Abw te):=by
 intro pins s σ H Q I hw
 rw [evalPart_some]
 refine thn (h pins s σ H _ I hw) fun u s1 ⟨x,H1,I1,r1,q1⟩=>?_
 obtain ⟨i,rfl,q⟩:=q1
 obtain ⟨t,rfl⟩:=r1
 exact ⟨some i,H1,I1,.int i t,q⟩
def SlR (X:Cx) (r:V->Option Int->Option Int->Hp->VK->Prop):Prop :=
 ∀ (pins:List (Addr × Obj)) (s:Shared) (σ:St) (H:Hp) (x:V) (v vl vu:Value) (lo hi:Option Int) (sl:Addr) (Q:VK),Inv X pins σ H s->RelV x v->s.heap.IsSliceOf sl vl vu .none->IsPart vl lo->IsPart vu hi->r x lo hi H Q ->
  ∃ T id,typeLookup (.type T) "__getitem__" = pure (some (.builtin id))/\s.TypeIs v T/\wpAny (model X.prog X.w) X.A (getItem v (.ref sl)) (EP X pins σ Q) X.xe s
def tSl (r:V->Option Int->Option Int->Hp->VK->Prop) (te:TE) (tl th:TO):TE:=fun σ H Q=>te σ H fun x H1=>tl σ H1 fun l H2=>th σ H2 fun u H3=>r x l u H3 Q
theorem Dk {r:V->Option Int->Option Int->Hp->VK->Prop} (hr:SlR X r) (he:PE X e te) (hl:PO X lo tl) (hu:PO X hi th):PE X (.Subscript e (.Slice lo hi none p2) pos) (tSl r te tl th):=by
 intro pins s σ H Q I h
 refine Subscript_ (thn (he pins s σ H _ I h) fun v s1 ⟨x,H1,I1,r1,q1⟩=>?_)
 refine wpAny_Slice (thn (hl pins s1 σ H1 _ I1 q1) fun vl s2 ⟨l,H2,I2,pl,q2⟩=>thn (hu pins s2 σ H2 _ I2 q2) fun vu s3 ⟨u,H3,I3,pu,q3⟩=>?_)
 rw [evalPart_none]
 refine wpAny_pure ?_
 have I4:Inv X pins σ H3 { s3 with heap:=s3.heap.push { cls:=.type "slice",data:=.fields #[vl,vu,.none] } }:=I3.kept (t':=s3.toks) fun b ob q=>Heap.get?_push_of_some _ q
 obtain ⟨T,id,hT,ht,hg⟩:=hr pins { s3 with heap:=s3.heap.push { cls:=.type "slice",data:=.fields #[vl,vu,.none] } } σ H3 x v vl vu l u s3.heap.objs.size Q I4 r1 (Heap.IsSliceOf.new ..) pl pu q3
 show wpAny (model X.prog X.w) X.A (subscriptTail e (.Slice lo hi none p2) v (.ref s3.heap.objs.size)) (EP X pins σ Q) X.xe { s3 with heap:=s3.heap.push { cls:=.type "slice",data:=.fields #[vl,vu,.none] } }
 exact tail_any (ops:=[.ref s3.heap.objs.size,v]) ht hT hg (by with_unfolding_all rfl)
def Gz (xs:List V) (lo hi:Option Int):List V:=(xs.drop (HT.sIx xs.length 0 lo)).take (HT.sIx xs.length xs.length hi - HT.sIx xs.length 0 lo)
theorem Tp (xs:List V) (lo hi:Option Int):(Gz xs lo hi).length <= xs.length:=by
 unfold Gz
 rw [List.length_take,List.length_drop]
 omega
def AkE (K:PySem.W.Frag):V->Option Int->Option Int->Hp->VK->Prop:=fun x lo hi H Q=>∃ a xs,x = .ref a/\SqT K H a xs /\
 ¬ (HT.sIx xs.length 0 lo = 0/\HT.sIx xs.length xs.length hi = xs.length)/\∀ p,H p = none->Q (.ref p) (upd H p (.tup (Gz xs lo hi)))
theorem Ahp:SlR X (AkE X.K):=by
 intro pins s σ H x v vl vu lo hi sl Q I rx hs pl pu h
 obtain ⟨a,xs,rfl,hx,hw,q⟩:=h
 cases rx
 obtain ⟨its,r,ht,hz⟩:=I.tuple hx
 have hlen:its.toArray.size = xs.length:=by rw [List.size_toArray]; exact r.length.symm
 refine ⟨"tuple",_,PyProof.Rows.slot_tuple_getitem.lookup,ht.typeIs,?_⟩
 refine HT.getItem_tuple_cut ht hs pl pu (by rw [hlen]; exact hw) ?_ (by rw [hlen]; exact hz)
 rw [hlen]
 refine ⟨.ref s.heap.objs.size,_,I.laid (t':=s.toks) (o:=.tup (Gz xs lo hi)) (fun b ob q=>Heap.get?_push_of_some _ q) (Nat.le_refl _) ?_,rfl,q _ (I.hok.fresh (Nat.le_refl _))⟩
 exact ⟨Nat.le_trans (Tp xs lo hi) hz,_,(r.drop (HT.sIx xs.length 0 lo)).take (HT.sIx xs.length xs.length hi - HT.sIx xs.length 0 lo),IsTup.new _ _⟩
end
end L2
namespace L2
open PySem PySem.Spec PyProof.Rows
def ixN (n:Nat) (i:Int):Option Nat:=if 0 <= i then (if i < n then some i.toNat else none) else if -(n:Int) <= i then some (i + n).toNat else none
def atI {α:Type} (xs:List α) (i:Int):Option α:=(ixN xs.length i).bind fun j=>xs[j]?
theorem Agr {n:Nat} {i:Int} {j:Nat} (h:ixN n i = some j):seqIndex? i n = some j/\j < n/\-(n:Int) <= i/\i < n:=by
 unfold ixN at h
 by_cases h0:0 <= i
 ·rw [if_pos h0] at h
  by_cases h1:i < n
  ·rw [if_pos h1] at h
   have e:i.toNat = j:=Option.some.inj h
   exact ⟨by rw [seqIndex_of h0 h1,e],by omega,by omega,h1⟩
  ·rw [if_neg h1] at h; cases h
 ·rw [if_neg h0] at h
  by_cases h1:-(n:Int) <= i
  ·rw [if_pos h1] at h
   have e:(i + n).toNat = j:=Option.some.inj h
   exact ⟨by rw [seqIndex_neg (by omega) h1,e],by omega,h1,by omega⟩
  ·rw [if_neg h1] at h; cases h
theorem Aaw {α:Type} {xs:List α} {i:Int} {v:α} (h:atI xs i = some v):∃ j,seqIndex? i xs.length = some j/\xs[j]? = some v/\j < xs.length/\-(xs.length:Int) <= i/\i < xs.length:=by
 unfold atI at h
 cases e:ixN xs.length i with
 | none=>rw [e] at h; cases h
 | some j =>
  rw [e] at h
  obtain ⟨h1,h2,h3,h4⟩:=Agr e
  exact ⟨j,h1,h,h2,h3,h4⟩
theorem Db {α:Type} {xs:List α} {j:Nat} {v:α} (h:xs[j]? = some v):atI xs (j:Int) = some v:=by
 have hj:j < xs.length:=(List.getElem?_eq_some_iff.mp h).1
 have e:ixN xs.length (j:Int) = some j:=by
  unfold ixN
  rw [if_pos (by omega),if_pos (by omega)]; simp
 unfold atI; rw [e]; exact h
def Ahb (b:Expr):Prop:=∀ o i,subscripted b false o i = operate [o,i] (getItem o i)
def IxR (X:Cx) (r:R2):Prop :=
 ∀ (value slice:Expr) (pins:List (Addr × Obj)) (s:Shared) (σ:St) (H:Hp) (x y:V) (v u:Value) (Q:VK),Inv X pins σ H s->RelV x v->RelV y u->r x y H Q ->
  subscripted slice false v u = operate [v,u] (getItem v u)->wpAny (model X.prog X.w) X.A (subscriptTail value slice v u) (EP X pins σ Q) X.xe s
def MtR (X:Cx) (id:String) (r:V->List V->Hp->VK->Prop):Prop :=
 ∀ (pins:List (Addr × Obj)) (s:Shared) (σ:St) (H:Hp) (x:V) (xs:List V) (v:Value) (us:List Value) (Q:VK),Inv X pins σ H s->RelV x v->Vals xs us->r x xs H Q ->
  wpAny (model X.prog X.w) X.A (call (.builtin id) (v :: us)) (EP X pins σ Q) X.xe s
section
variable {X:Cx} {a b:Expr} {ta tb:TE} {pos:Pos}
theorem Cb {r:R2} (hr:IxR X r) (ha:PE X a ta) (hb:PE X b tb) (hs:Ahb b):PE X (.Subscript a b pos) (tOp r ta tb):=by
 intro pins s σ H Q I h
 exact Subscript_ (Ad2 ha hb I h fun v u s2 x y H2 I2 rx ry q=>hr a b pins s2 σ H2 x y v u Q I2 rx ry q (hs _ _))
def AbU (K:PySem.W.Frag):R2:=fun x y H Q=>∃ p xs i v,x = .ref p/\y = .int i/\SqL K H p xs/\atI xs i = some v/\Q v H
def AbE (K:PySem.W.Frag):R2:=fun x y H Q=>∃ p xs i v,x = .ref p/\y = .int i/\SqT K H p xs/\atI xs i = some v/\Q v H
theorem Dy:IxR X (AbU X.K):=by
 intro value slice pins s σ H x y v u Q I rx ry h hs
 obtain ⟨p,xs,i,z,rfl,rfl,hq,he,q⟩:=h
 cases rx
 obtain ⟨t,rfl⟩:=ry
 obtain ⟨its,r,pl,hz⟩:=I.list hq
 obtain ⟨j,h1,h2,h3,h4,h5⟩:=Aaw he
 obtain ⟨w,ew,rw'⟩:=r.get h2
 have hl:=r.length
 have hn:=Zb
 have fin:EP X pins σ Q w s:=⟨z,H,I,rw',q⟩
 by_cases h0:0 <= i
 ·have hj:i.toNat = j:=by
   rw [seqIndex_of h0 h5] at h1
   exact Option.some.inj h1
  exact item_listR pl.isList h0 (by omega) (by rw [hj]; simpa using ew) fin hs
 ·have hj:(i + (its.toArray.size:Int)).toNat = j:=by
   rw [seqIndex_neg (by omega) h4] at h1
   rw [List.size_toArray,<- hl]
   exact Option.some.inj h1
  exact subscriptTail_builtinR (x:=w) pl.isList.typeIs slot_list_getitem.lookup
   (wpAny_getItem_list_neg (Q:=fun r s'=>r = w/\EP X pins σ Q r s') pl.isList (by omega) (by rw [List.size_toArray] <;> omega) (by omega) (by rw [hj]; simpa using ew) ⟨rfl,fin⟩) hs
theorem Rs:IxR X (AbE X.K):=by
 intro value slice pins s σ H x y v u Q I rx ry h hs
 obtain ⟨p,xs,i,z,rfl,rfl,hq,he,q⟩:=h
 cases rx
 obtain ⟨t,rfl⟩:=ry
 obtain ⟨its,r,pl,hz⟩:=I.tuple hq
 obtain ⟨j,h1,h2,h3,h4,h5⟩:=Aaw he
 obtain ⟨w,ew,rw'⟩:=r.get h2
 have hl:=r.length
 have hn:=Zb
 have fin:EP X pins σ Q w s:=⟨z,H,I,rw',q⟩
 exact subscriptTail_builtinR (x:=w) pl.typeIs slot_tuple_getitem.lookup
  (getItem_tuple (j:=j) (Q:=fun r s'=>r = w/\EP X pins σ Q r s') pl (by omega) (by omega) (by rw [List.size_toArray,<- hl]; exact h1) (by simpa using ew) ⟨rfl,fin⟩) hs
theorem Xt (lo hi:Option Int) (n:Nat):(sliceBounds lo hi none n).1 = ((HT.sIx n 0 lo:Nat):Int)/\(sliceBounds lo hi none n).2.1 = ((HT.sIx n n hi:Nat):Int)/\(sliceBounds lo hi none n).2.2 = 1:=by
 refine ⟨?_,?_,rfl⟩
 ·cases lo with
  | none=>simp [sliceBounds,HT.sIx]
  | some i =>
   simp only [sliceBounds,HT.sIx,Option.getD_none,show (1:Int) > 0 by decide,if_true]
   by_cases h:i < 0
   ·simp only [h,if_true] <;> omega
   ·simp only [h,if_false] <;> omega
 ·cases hi with
  | none=>simp [sliceBounds,HT.sIx]
  | some i =>
   simp only [sliceBounds,HT.sIx,Option.getD_none,show (1:Int) > 0 by decide,if_true]
   by_cases h:i < 0
   ·simp only [h,if_true] <;> omega
   ·simp only [h,if_false] <;> omega
theorem Wz (its:List Value) (lo hi:Option Int):slicePick its.toArray lo hi none = ((its.drop (HT.sIx its.length 0 lo)).take (HT.sIx its.length its.length hi - HT.sIx its.length 0 lo)).toArray:=by
 obtain ⟨h1,h2,h3⟩:=Xt lo hi its.toArray.size
 unfold slicePick
 rw [h1,h2,h3]
 simp only [sliceRange_one,pick_run,List.size_toArray] <;> rfl
def AkG (K:PySem.W.Frag):V->Option Int->Option Int->Hp->VK->Prop:=fun x lo hi H Q=>∃ a xs,x = .ref a/\SqL K H a xs/\∀ p,H p = none->Q (.ref p) (upd H p (.lst (Gz xs lo hi)))
theorem Ag0:SlR X (AkG X.K):=by
 intro pins s σ H x v vl vu lo hi sl Q I rx hs pl pu h
 obtain ⟨a,xs,rfl,hx,q⟩:=h
 cases rx
 obtain ⟨its,r,ht,hz⟩:=I.list hx
 have hlen:=r.length
 refine ⟨"list",_,slot_list_getitem.lookup,ht.isList.typeIs,?_⟩
 refine wpAny_getItem_list_slice ht.isList hs pl pu .none (by simp) ?_ (by rw [List.size_toArray] <;> omega)
 rw [Wz,<- hlen]
 refine ⟨.ref s.heap.objs.size,_,I.laid (t':=s.toks) (o:=.lst (Gz xs lo hi)) (fun b ob q=>Heap.get?_push_of_some _ q) (Nat.le_refl _) ?_,rfl,q _ (I.hok.fresh (Nat.le_refl _))⟩
 exact ⟨Nat.le_trans (Tp xs lo hi) hz,_,0,(r.drop (HT.sIx xs.length 0 lo)).take (HT.sIx xs.length xs.length hi - HT.sIx xs.length 0 lo),Heap.get?_push_size _ rfl⟩
def Jq:V->Bool
 | .non=>true
 | .bl _=>true
 | .int _=>true
 | .str _=>true
 | _=>false
def eqV:V->V->Bool
 | .non,.non=>true
 | .bl a,.bl b=>a == b
 | .bl a,.int b=>(if a then 1 else 0) == b
 | .int a,.bl b=>a == (if b then 1 else 0)
 | .int a,.int b=>a == b
 | .str a,.str b=>a == b
 | _,_=>false
theorem Ab1 {A:Around} {s:Shared} {y x:V} {u v:Value} (ry:RelV y u) (rx:RelV x v) (fy:Jq y = true) (fx:Jq x = true):SeqAt.EqAt A s u v (eqV y x):=by
 cases y with
 | non =>
  cases ry
  cases x with
  | non=>cases rx; exact SeqAt.EqAt.same _
  | bl b=>cases rx; exact SeqAt.EqAt.none_bool b
  | int b=>obtain ⟨t,rfl⟩:=rx; exact SeqAt.EqAt.none_int b t
  | str b=>obtain ⟨t,rfl⟩:=rx; exact SeqAt.EqAt.none_str b t
  | _=>exact absurd (show false = true from fx) Bool.false_ne_true
 | bl a =>
  cases ry
  cases x with
  | non=>cases rx; exact SeqAt.EqAt.bool_none a
  | bl b=>cases rx; exact SeqAt.EqAt.bool_bool a b
  | int b=>obtain ⟨t,rfl⟩:=rx; exact SeqAt.EqAt.bool_int a b t
  | str b=>obtain ⟨t,rfl⟩:=rx; exact SeqAt.EqAt.bool_str a b t
  | _=>exact absurd (show false = true from fx) Bool.false_ne_true
 | int a =>
  obtain ⟨t',rfl⟩:=ry
  cases x with
  | non=>cases rx; exact SeqAt.EqAt.int_none a t'
  | bl b=>cases rx; exact SeqAt.EqAt.int_bool a t' b
  | int b=>obtain ⟨t,rfl⟩:=rx; exact SeqAt.EqAt.int_int a t' b t
  | str b=>obtain ⟨t,rfl⟩:=rx; exact SeqAt.EqAt.int_str a t' b t
  | _=>exact absurd (show false = true from fx) Bool.false_ne_true
 | str a =>
  obtain ⟨t',rfl⟩:=ry
  cases x with
  | non=>cases rx; exact SeqAt.EqAt.str_none a t'
  | bl b=>cases rx; exact SeqAt.EqAt.str_bool a t' b
  | int b=>obtain ⟨t,rfl⟩:=rx; exact SeqAt.EqAt.str_int a t' b t
  | str b=>obtain ⟨t,rfl⟩:=rx; exact SeqAt.EqAt.str_str a t' b t
  | _=>exact absurd (show false = true from fx) Bool.false_ne_true
 | _=>exact absurd (show false = true from fy) Bool.false_ne_true
def eqU (x:V) (u:Value):Bool:=match u with
 | .none=>eqV .non x
 | .bool b=>eqV (.bl b) x
 | .int i _=>eqV (.int i) x
 | .str z _=>eqV (.str z) x
 | _=>false
theorem Adz {x y:V} {u:Value} (r:RelV y u) (f:Jq y = true):eqU x u = eqV y x:=by
 cases y with
 | non=>cases r; rfl
 | bl b=>cases r; rfl
 | int i=>obtain ⟨t,rfl⟩:=r; rfl
 | str z=>obtain ⟨t,rfl⟩:=r; rfl
 | _=>exact absurd (show false = true from f) Bool.false_ne_true
theorem Vy {x:V}:∀ {xs:List V} {us:List Value},Vals xs us->xs.all Jq = true->us.any (eqU x) = xs.any fun y=>eqV y x
 | _,_,.nil,_=>rfl
 | y :: xs,u :: us,.cons r t,f=>by
  rw [List.all_cons,Bool.and_eq_true] at f
  rw [List.any_cons,List.any_cons,Adz r f.1,Vy t f.2]
theorem Tv {A:Around} {s:Shared} {x:V} {v:Value} (rx:RelV x v) (fx:Jq x = true):∀ {xs:List V} {us:List Value},Vals xs us->xs.all Jq = true->∀ u ∈ us,SeqAt.EqAt A s u v (eqU x u)
 | _,_,.nil,_=>fun u hu=>by cases hu
 | y :: xs,u :: us,.cons r t,f=>fun u' hu=>by
  rw [List.all_cons,Bool.and_eq_true] at f
  rcases List.mem_cons.mp hu with rfl | hu
  ·rw [Adz r f.1]; exact Ab1 r rx f.1 fx
  ·exact Tv rx fx t f.2 u' hu
def inV (x:V) (xs:List V):Bool:=xs.any fun y=>eqV y x
def rIn (K:PySem.W.Frag) (neg:Bool):R2:=fun x y H Q=>∃ p xs,y = .ref p/\(SqL K H p xs\/SqT K H p xs)/\Jq x = true/\xs.all Jq = true/\Q (.bl (if neg then !inV x xs else inV x xs)) H
theorem Wc:OpR X (compareOp .In) (rIn X.K false):=by
 intro pins s σ H x y v u Q I rx ry h
 obtain ⟨p,xs,rfl,hq,fx,fs,q⟩:=h
 cases ry
 rcases hq with hq | hq
 ·obtain ⟨its,r,pl,hz⟩:=I.list hq
  refine SeqAt.in_listAt (eqU x) pl.isList (fun w hw=>Tv rx fx r fs w (by simpa using hw)) ⟨.bl _,H,I,rfl,?_⟩
  rw [show its.toArray.any (eqU x) = its.any (eqU x) by simp,Vy r fs]
  exact q
 ·obtain ⟨its,r,pl,hz⟩:=I.tuple hq
  refine SeqAt.in_tupleAt (eqU x) pl (fun w hw=>Tv rx fx r fs w (by simpa using hw)) ⟨.bl _,H,I,rfl,?_⟩
  rw [show its.toArray.any (eqU x) = its.any (eqU x) by simp,Vy r fs]
  exact q
theorem Fw:Gw X (.builtin "len") (fun xs H Q=>∃ p ys,xs = [.ref p]/\(SqL X.K H p ys\/SqT X.K H p ys)/\Q (.int ys.length) H):=by
 intro pins s σ H xs us Q I r h
 obtain ⟨p,ys,rfl,hq,q⟩:=h
 obtain ⟨u,rfl,rx⟩:=Sv r
 cases rx
 have hn:=Zb
 rcases hq with hq | hq
 ·obtain ⟨its,r',pl,hz⟩:=I.list hq
  have hlen:=r'.length
  exact Calls.call_len_list pl.isList (by simp only [List.size_toArray] <;> omega) ⟨.int ys.length,H,I.tok _,⟨s.toks + 1,by rw [List.size_toArray,hlen]⟩,q⟩
 ·obtain ⟨its,r',pl,hz⟩:=I.tuple hq
  have hlen:=r'.length
  exact len_tuple pl (by simp only [List.size_toArray] <;> omega) ⟨.int ys.length,H,I.tok _,⟨s.toks + 1,by rw [List.size_toArray,hlen]⟩,q⟩
theorem Yn:Gw X (.type "list") (fun xs H Q=>∃ p ys,xs = [.ref p]/\(SqL X.K H p ys\/SqT X.K H p ys)/\∀ l,H l = none->Q (.ref l) (upd H l (.lst ys))):=by
 intro pins s σ H xs us Q I r h
 obtain ⟨p,ys,rfl,hq,q⟩:=h
 obtain ⟨u,rfl,rx⟩:=Sv r
 cases rx
 have fin:∀ (its:List Value),Vals ys its->ys.length <= sizeLine->∀ (h':Heap) (c':Nat),(∀ b o',s.heap.get? b = some o'->h'.get? b = some o') ->
   h'.get? s.heap.objs.size = some { cls:=.type "list",dict:=none,data:=.seq its.toArray c',slots:=#[] }->EP X pins σ Q (.ref s.heap.objs.size) { s with heap:=h' }:=fun its r' hz h' c' kp e =>
  ⟨.ref s.heap.objs.size,_,I.laid (t':=s.toks) kp (Nat.le_refl _) (show ObjOk X.prog X.w _ h' _ (.lst ys) from ⟨hz,its,c',r',e⟩),rfl,q _ (I.hok.fresh (Nat.le_refl _))⟩
 rcases hq with hq | hq
 ·obtain ⟨its,r',pl,hz⟩:=I.list hq
  have hlen:=r'.length
  obtain ⟨o,ho,hc,n,hd⟩:=pl.isList
  exact call_list_seq p (.inl rfl) ho hc hd (fun h' c' kp e=>fin its r' hz h' c' kp e) (by simp only [List.size_toArray] <;> omega)
 ·obtain ⟨its,r',pl,hz⟩:=I.tuple hq
  have hlen:=r'.length
  obtain ⟨o,ho,hc,n,hd⟩:=pl
  exact call_list_seq p (.inr rfl) ho hc hd (fun h' c' kp e=>fin its r' hz h' c' kp e) (by simp only [List.size_toArray] <;> omega)
def tyV (K:PySem.W.Frag) (T:String) (x:V) (H:Hp):Prop:=match x with
 | .str _=>T = "str"
 | .int _=>T = "int"
 | .ref p=>(T = "list"/\∃ xs,SqL K H p xs)\/(T = "tuple"/\∃ o,K.lookup p = some o/\o.cls = .type "tuple"/\o.dict = none) \/
   (T = "dict"/\((∃ kvs,H p = some (.dK kvs))\/∃ kvs,H p = some (.dT kvs)))\/(T = "set"/\∃ S n,H p = some (.set S n))
 | _=>False
theorem Aim {pins:List (Addr × Obj)} {σ:St} {H:Hp} {s:Shared} {T:String} {x:V} {v:Value} (I:Inv X pins σ H s) (r:RelV x v) (ty:tyV X.K T x H) :
  s.TypeIs v T/\∀ a,v = .ref a->∃ ob,s.heap.get? a = some ob/\ob.dict = none:=by
 cases x with
 | str z =>
  obtain ⟨t,rfl⟩:=r
  cases (show T = "str" from ty)
  exact ⟨typeIs_str s z t,fun _ e=>nomatch e⟩
 | int i =>
  obtain ⟨t,rfl⟩:=r
  cases (show T = "int" from ty)
  exact ⟨typeIs_int s i t,fun _ e=>nomatch e⟩
 | ref p =>
  cases r
  rcases ty with ⟨rfl,xs,hq⟩ | ⟨rfl,o,hk,hc,hd⟩ | ⟨rfl,hk⟩ | ⟨rfl,S,n,hk⟩
  ·obtain ⟨its,_,pl,_⟩:=I.list hq
   refine ⟨pl.isList.typeIs,fun a e=>?_⟩
   cases e
   obtain ⟨o,n,e,c,hd,_⟩:=pl
   exact ⟨o,e,hd⟩
  ·refine ⟨⟨o,I.kIn p o hk,hc⟩,fun a e=>?_⟩
   cases e
   exact ⟨o,I.kIn _ o hk,hd⟩
  ·have z:∃ o,s.heap.get? p = some o/\o.ExactDict:=by
    rcases hk with ⟨kvs,hk⟩ | ⟨kvs,hk⟩
    ·obtain ⟨_,_,_,_,o,_,_,e,ex,_⟩:=I.hok p _ hk
     exact ⟨o,e,ex⟩
    ·obtain ⟨_,_,_,_,o,_,_,e,ex,_⟩:=I.hok p _ hk
     exact ⟨o,e,ex⟩
   obtain ⟨o,e,ex⟩:=z
   refine ⟨⟨o,e,ex.1⟩,fun a e2=>?_⟩
   cases e2
   exact ⟨o,e,ex.2.1⟩
  ·obtain ⟨o,_,_,_,e,ex,_⟩:=I.hok p _ hk
   refine ⟨⟨o,e,ex.1⟩,fun a e2=>?_⟩
   cases e2
   exact ⟨o,e,ex.2.1⟩
 | _=>exact False.elim ty
def tBM (K:PySem.W.Frag) (T:String) (r:V->List V->Hp->VK->Prop) (to:TE) (t:TA):TE:=fun σ H Q=>to σ H fun x H1=>tyV K T x H1/\t σ H1 fun xs H2=>r x xs H2 Q
variable {o e:Expr} {es:List Expr} {to:TE} {t:TA} {name:Str} {apos cpos:Pos} {T id:String} {r:V->List V->Hp->VK->Prop}
theorem Jz (pa:PlainAttrs T) (slot:Slot T name id) (hty:typeOf (.builtin id) = pure (.type "method_descriptor")) (hm:MtR X id r) (ho:PE X o to) (ha:PA X (e :: es) t)
  (hbase:attributeBase o name X.env (eval o X.env) = eval o X.env:=by rfl)
  (hfew:((backTo cpos (starEach (e :: es) X.env)).all (fun x=>!x.1) && (backToKw cpos (keywordEach [] X.env)).all (fun x=>x.1.isSome)
   && decide ((e :: es).length + ([]:List Keyword).length + (if ([]:List Keyword).isEmpty then 0 else 1) < 30)) = true:=by rfl)
  (hline:(apos.endLine == cpos.line) = true:=by rfl) (hs:starEach (e :: es) X.env = (false,eval e X.env) :: starEach es X.env:=by rfl) (hplain:(backTo cpos (starEach es X.env)).any (·.1) = false:=by rfl) :
  PE X (.Call (.Attribute o name apos) (e :: es) [] cpos) (tBM X.K T r to t):=by
 intro pins s σ H Q I h
 refine wpAny_Call_method_late hbase hfew hline rfl (thn (ho pins s σ H _ I h) fun v s1 ⟨x,H1,I1,r1,ty,q1⟩=>?_)
 obtain ⟨h1,h2⟩:=Aim I1 r1 ty
 refine ⟨T,id,pa,slot,hty,h1,h2,?_⟩
 have hA:=ha cpos pins s1 σ H1 _ I1 q1
 rw [hs] at hA ⊢
 refine Calls.callWith_builtin (by show (false || (backTo cpos (starEach es X.env)).any (·.1)) = false; rw [hplain] <;> rfl) (Calls.evalArgs_plain ?_)
 exact thn hA fun us s2 ⟨vs,H2,I2,r2,q2⟩=>hm pins s2 σ H2 x vs v us Q I2 r1 r2 q2
end
end L2
namespace L2
open PySem PySem.Spec PyProof.Rows
def MtM (X:Cx) (id:String) (r:V->List V->Hp->VK->Prop):Prop :=
 ∀ (pins:List (Addr × Obj)) (s:Shared) (σ:St) (H:Hp) (x:V) (xs:List V) (v:Value) (us:List Value) (Q:VK),Inv X pins σ H s->RelV x v->Vals xs us->r x xs H Q ->
  wpAny (model X.prog X.w) X.A (call (.builtin id) (v :: us)) (EP X pins σ Q) X.xe s
theorem Vals.one:∀ {x:V} {us:List Value},Vals [x] us->∃ u,us = [u]/\RelV x u
 | _,_,.cons r .nil=>⟨_,rfl,r⟩
section
variable {X:Cx} {pins:List (Addr × Obj)} {σ:St} {H:Hp} {s:Shared} {l b:Addr} {xs ys zs:List V}
theorem Inv.lset {its its':List Value} {n:Nat} {f:Array Value->Array Value} {t':Nat} (I:Inv X pins σ H s) (hH:H l = some (.lst xs))
  (e:s.heap.get? l = some { cls:=.type "list",data:=.seq its.toArray n }) (hf:f its.toArray = its'.toArray) (hv:Vals ys its') (hz:ys.length <= sizeLine) :
  Inv X pins σ (upd H l (.lst ys)) { s with heap:=s.heap.update l (Obj.mapSeq f),toks:=t' }:=by
 have q:=PySem.IsL.update e f
 rw [hf] at q
 refine I.write (x:=l) (e:=l) (by rw [hH]; exact trivial) (.inl rfl) (fun b' u hb hu=>(Heap.get?_update_other s.heap (Obj.mapSeq f) (Ne.symm hb)).trans hu) ⟨_,q⟩ ?_
 exact ⟨hz,its',_,hv,q⟩
theorem Inv.lnew {its:List Value} {t':Nat} (I:Inv X pins σ H s) (hv:Vals ys its) (hz:ys.length <= sizeLine) :
  Inv X pins σ (upd H s.heap.objs.size (.lst ys)) { s with heap:=s.heap.push { cls:=.type "list",data:=.seq its.toArray },toks:=t' } :=
 I.laid (fun _ _ q=>Heap.get?_push_of_some _ q) (Nat.le_refl _) ⟨hz,its,0,hv,Heap.get?_push_size _ rfl⟩
theorem Inv.fresh (I:Inv X pins σ H s):H s.heap.objs.size = none:=I.hok.fresh (Nat.le_refl _)
theorem Inv.lstM (I:Inv X pins σ H s) (hH:H l = some (.lst xs)):xs.length <= sizeLine/\∃ (its:List Value) (n:Nat),Vals xs its/\xs.length = its.length/\s.heap.get? l = some { cls:=.type "list",data:=.seq its.toArray n }:=by
 obtain ⟨z,its,n,r,e⟩:=I.hok l _ hH
 exact ⟨z,its,n,r,r.length,e⟩
end
section
variable {X:Cx}
def Ag1:V->List V->Hp->VK->Prop:=fun x vs H Q=>∃ l xs y,x = .ref l/\vs = [y]/\H l = some (.lst xs)/\xs.length < sizeLine/\Q .non (upd H l (.lst (xs ++ [y])))
theorem Wd:MtM X "list.append" Ag1:=by
 intro pins s σ H x vs v us Q I rx rv h
 obtain ⟨l,xs,y,rfl,rfl,hH,hz,q⟩:=h
 cases rx
 obtain ⟨u,rfl,ru⟩:=rv.one
 obtain ⟨z,its,n,r,hl,e⟩:=I.lstM hH
 refine call_meets F.slot_list_append ⟨_,e,rfl⟩ F.entry_list_append (F.args_list_append_2 _ _) (PySem.list_append l its.toArray n u (by rw [List.size_toArray]; omega)) ⟨e,?_⟩
 refine ⟨.non,_,I.lset (its':=its ++ [u]) hH e (by simp) (r.append (.cons ru .nil)) ?_,rfl,q⟩
 rw [List.length_append,List.length_singleton]
 omega
def AkK:R2:=fun x y H Q=>∃ l b xs zs,x = .ref l/\y = .ref b/\H l = some (.lst xs)/\H b = some (.lst zs)/\xs.length + zs.length <= sizeLine/\∀ p,H p = none->Q (.ref p) (upd H p (.lst (xs ++ zs)))
theorem Ai3:OpR X (binaryOp .Add) AkK:=by
 intro pins s σ H x y v u Q I rx ry h
 obtain ⟨l,b,xs,zs,rfl,rfl,hH,hB,hz,q⟩:=h
 cases rx
 cases ry
 obtain ⟨z,its,n,r,hl,e⟩:=I.lstM hH
 obtain ⟨z2,its2,n2,r2,hl2,e2⟩:=I.lstM hB
 refine PySem.P.add_list e e2 ?_ (by rw [List.size_toArray,List.size_toArray]; omega)
 have ea:its.toArray ++ its2.toArray = (its ++ its2).toArray:=by simp
 rw [ea]
 exact ⟨.ref _,_,I.lnew (t':=s.toks) (r.append r2) (by rw [List.length_append]; omega),rfl,q _ I.fresh⟩
end
section
variable {prog:Program} {w:World} {A:Around} {E:Value->Shared->Prop} {s:Shared}
set_option maxRecDepth 100000 in
end
section
variable {X:Cx}
end
end L2
namespace L2
open PySem PySem.Spec PyProof.Rows
section
variable {κ:Type} [DecidableEq κ]
def Cd (kvs:List (κ × V)) (k:κ):Option V:=(kvs.find? fun kv=>decide (kv.1 = k)).map (·.2)
def Gg (kvs:List (κ × V)) (k:κ) (v:V):List (κ × V) :=
 if (kvs.any fun kv=>decide (kv.1 = k)) = true then kvs.map (fun kv=>if kv.1 = k then (kv.1,v) else kv) else kvs ++ [(k,v)]
theorem Jd {p:κ × V} {r:List (κ × V)} {k:κ} (e:p.1 = k):Cd (p :: r) k = some p.2:=by simp [Cd,List.find?_cons,e]
theorem Jb {p:κ × V} {r:List (κ × V)} {k:κ} (e:¬ p.1 = k):Cd (p :: r) k = Cd r k:=by simp [Cd,List.find?_cons,e]
theorem Qm (k:κ):∀ kvs:List (κ × V),(kvs.any fun kv=>decide (kv.1 = k)) = (Cd kvs k).isSome
 | []=>rfl
 | p :: r=>by
  rw [List.any_cons]
  by_cases e:p.1 = k
  ·simp only [Jd e,decide_eq_true e,Bool.true_or,Option.isSome_some]
  ·rw [Jb e,decide_eq_false e,Bool.false_or]; exact Qm k r
theorem Tm (kvs:List (κ × V)) (k:κ) (v:V):(Gg kvs k v).length <= kvs.length + 1:=by
 unfold Gg
 split
 ·rw [List.length_map]; omega
 ·rw [List.length_append,List.length_cons,List.length_nil]; omega
theorem Jw {kvs:List (κ × V)} {k:κ} (v:V) (h:Cd kvs k = none):Gg kvs k v = kvs ++ [(k,v)]:=by
 unfold Gg
 rw [Qm,h]
 exact if_neg (by decide)
theorem RelO.isSome_eq {o:Option V} {u:Option Value} (r:RelO o u):o.isSome = u.isSome:=by
 cases o with
 | none=>cases u with
  | none=>rfl
  | some _=>exact (show False from r).elim
 | some _=>cases u with
  | none=>exact (show False from r).elim
  | some _=>rfl
theorem RelO.getD {o:Option V} {u:Option Value} {d:V} {d':Value} (r:RelO o u) (rd:RelV d d'):RelV (o.getD d) (u.getD d'):=by
 cases o with
 | none=>cases u with
  | none=>exact rd
  | some _=>exact (show False from r).elim
 | some _=>cases u with
  | none=>exact (show False from r).elim
  | some _=>exact r
theorem KV.val {kvs:List (κ × V)} {vs:List (κ × Value)} (r:KV kvs vs) (k:κ):RelO (Cd kvs k) (valueAt vs k):=by
 unfold KV at r
 induction r with
 | nil=>exact True.intro
 | @cons p q ps qs h t ih =>
  obtain ⟨h1,h2⟩:=h
  by_cases e:p.1 = k
  ·have e':q.1 = k:=h1.symm.trans e
   have b:valueAt (q :: qs) k = some q.2:=by simp [valueAt,List.find?_cons,e']
   rw [Jd e,b]; exact h2
  ·have e':¬ q.1 = k:=fun z=>e (h1.trans z)
   have b:valueAt (q :: qs) k = valueAt qs k:=by simp [valueAt,List.find?_cons,e']
   rw [Jb e,b]; exact ih
theorem KV.any {kvs:List (κ × V)} {vs:List (κ × Value)} (r:KV kvs vs) (k:κ):(kvs.any fun kv=>decide (kv.1 = k)) = vs.any fun kv=>decide (kv.1 = k):=by
 unfold KV at r
 induction r with
 | nil=>rfl
 | cons h t ih=>rw [List.any_cons,List.any_cons,ih,h.1]
theorem KV.repl {kvs:List (κ × V)} {vs:List (κ × Value)} (r:KV kvs vs) (k:κ) {y:V} {u:Value} (ry:RelV y u) :
  KV (kvs.map fun kv=>if kv.1 = k then (kv.1,y) else kv) (vs.map fun kv=>if kv.1 = k then (kv.1,u) else kv):=by
 unfold KV at r ⊢
 induction r with
 | nil=>exact .nil
 | @cons p q ps qs h t ih =>
  rw [List.map_cons,List.map_cons]
  refine .cons ?_ ih
  obtain ⟨h1,h2⟩:=h
  by_cases e:p.1 = k
  ·rw [if_pos e,if_pos (h1.symm.trans e)]; exact ⟨h1,ry⟩
  ·rw [if_neg e,if_neg (fun z=>e (h1.trans z))]; exact ⟨h1,h2⟩
theorem KV.put {kvs:List (κ × V)} {vs:List (κ × Value)} (r:KV kvs vs) (k:κ) {y:V} {u:Value} (ry:RelV y u):KV (Gg kvs k y) (stored vs k u):=by
 unfold Gg stored
 rw [r.any k]
 by_cases e:(vs.any fun kv=>decide (kv.1 = k)) = true
 ·rw [if_pos e,if_pos e]; exact r.repl k ry
 ·rw [if_neg e,if_neg e]; exact Paired.snoc r ⟨rfl,ry⟩
theorem KV.keys {kvs:List (κ × V)} {vs:List (κ × Value)} (r:KV kvs vs):kvs.map (·.1) = vs.map (·.1):=by
 unfold KV at r
 induction r with
 | nil=>rfl
 | cons h t ih=>rw [List.map_cons,List.map_cons,ih,h.1]
theorem KV.length {kvs:List (κ × V)} {vs:List (κ × Value)} (r:KV kvs vs):kvs.length = vs.length:=Paired.length r
end
theorem Qt {P:Program} {w:World} {k:Key} {u:Value} (r:RelV (kV k) u):(Cs P w).is k u = true:=by
 cases k with
 | inl i=>obtain ⟨t,e⟩:=(show ∃ t,u = Value.int i t from r); subst e; exact Aab P w i t
 | inr x=>obtain ⟨t,e⟩:=(show ∃ t,u = Value.str x t from r); subst e; exact Aag P w x t
theorem Wp {P:Program} {w:World}:∀ {ks:List Key} {us:List Value},Vals (ks.map kV) us->ItemsAre (Cs P w) ks us
 | [],_,r=>by rw [List.map_nil] at r; cases r; exact .nil
 | k :: ks,_,r=>by
  rw [List.map_cons] at r
  cases r with
  | cons h t=>exact .cons (Qt h) (Wp t)
abbrev KT (H:Hp):List (List Key × V)->List (List Key × Addr × Value)->Prop:=Paired fun p q=>p.1 = q.1/\H q.2.1 = some (.tup (p.1.map kV))/\RelV p.2 q.2.2
theorem KT.val {H:Hp} {kvs:List (List Key × V)} {xs:List (List Key × Addr × Value)} (r:KT H kvs xs) (k:List Key):RelO (Cd kvs k) ((atKey xs k).map (·.2)):=by
 induction r with
 | nil=>exact True.intro
 | @cons p q ps qs h t ih =>
  obtain ⟨h1,_,h2⟩:=h
  by_cases e:p.1 = k
  ·have e':q.1 = k:=h1.symm.trans e
   have b:atKey (q :: qs) k = some q.2:=by simp [atKey,List.find?_cons,e']
   rw [Jd e,b]; exact h2
  ·have e':¬ q.1 = k:=fun z=>e (h1.trans z)
   have b:atKey (q :: qs) k = atKey qs k:=by simp [atKey,List.find?_cons,e']
   rw [Jb e,b]; exact ih
theorem KT.repl {H:Hp} {kvs:List (List Key × V)} {xs:List (List Key × Addr × Value)} (r:KT H kvs xs) (k:List Key) {y:V} {u:Value} (ry:RelV y u) :
  KT H (kvs.map fun kv=>if kv.1 = k then (kv.1,y) else kv) (xs.map (putAt k u)):=by
 induction r with
 | nil=>exact .nil
 | @cons p q ps qs h t ih =>
  rw [List.map_cons,List.map_cons]
  refine .cons ?_ ih
  obtain ⟨h1,h2,h3⟩:=h
  unfold putAt
  by_cases e:p.1 = k
  ·rw [if_pos e,if_pos (h1.symm.trans e)]; exact ⟨h1,h2,ry⟩
  ·rw [if_neg e,if_neg (fun z=>e (h1.trans z))]; exact ⟨h1,h2,h3⟩
theorem KT.put {H:Hp} {kvs:List (List Key × V)} {xs:List (List Key × Addr × Value)} (r:KT H kvs xs) (k:List Key) {b:Addr} {y:V} {u:Value} (hb:H b = some (.tup (k.map kV))) (ry:RelV y u) :
  KT H (Gg kvs k y) (storedH xs k b u):=by
 have e:(kvs.any fun kv=>decide (kv.1 = k)) = (atKey xs k).isSome:=by
  rw [Qm,(r.val k).isSome_eq,Option.isSome_map]
 unfold Gg storedH
 rw [e]
 by_cases q:(atKey xs k).isSome = true
 ·rw [if_pos q,if_pos q]; exact r.repl k ry
 ·rw [if_neg q,if_neg q]; exact Paired.snoc r ⟨rfl,hb,ry⟩
theorem KT.keeps {H H':Hp} {kvs:List (List Key × V)} {xs:List (List Key × Addr × Value)} (r:KT H kvs xs) (ht:∀ b ys,H b = some (.tup ys)->H' b = some (.tup ys)):KT H' kvs xs :=
 Paired.mapP r fun _ _ z=>⟨z.1,ht _ _ z.2.1,z.2.2⟩
section
variable {P:Program} {w:World} {H:Hp} {h:Heap} {a:Addr}
theorem AfN {u:HO} (ok:HOk P w H h) (e:Rd H a u):ObjOk P w H h a u:=e.ok ok
theorem Lq {kvs:List (Key × V)} (ok:HOk P w H h) (e:Rd H a (.dK kvs)):kvs.length <= sizeLine/\(a == sysModules) = false/\∃ vs,KV kvs vs/\h.DictOf (Cs P w) a vs :=
 show ObjOk P w H h a (.dK kvs) from AfN ok e
theorem AjE {kvs:List (Key × V)} (ok:HOk P w H h) (e:H a = some (.dK kvs)):kvs.length <= sizeLine/\(a == sysModules) = false/\∃ vs,KV kvs vs/\h.DictOf (Cs P w) a vs:=Lq ok (.inl e)
theorem Nl {ks:List Key} (ok:HOk P w H h) (e:H a = some (.tup (ks.map kV))):(tupleKind (Cs P w)).is h ks a:=by
 obtain ⟨_,its,r,o,h1,h2,n,h3⟩:=(show ObjOk P w H h a (.tup (ks.map kV)) from ok a _ e)
 exact ⟨o,its.toArray,n,h1,h2,h3,by simpa using Wp r⟩
theorem Oc {kvs:List (List Key × V)} (ok:HOk P w H h) (e:Rd H a (.dT kvs)):kvs.length <= sizeLine/\(a == sysModules) = false /\
  ∃ xs,KT H kvs xs/\h.DictOfH (tupleKind (Cs P w)) a xs:=by
 obtain ⟨z,y,xs,r,o,es,ep,h1,h2,h3,h4,h5⟩:=(show ObjOk P w H h a (.dT kvs) from AfN ok e)
 refine ⟨z,y,xs,r,o,es,ep,h1,h2,h3,h4,fun x hx=>?_,h5⟩
 have all:∀ {l:List (List Key × V)} {m:List (List Key × Addr × Value)},KT H l m->∀ x ∈ m,(tupleKind (Cs P w)).is h x.1 x.2.1:=by
  intro l m q
  induction q with
  | nil=>intro x hx; exact nomatch hx
  | @cons p q ps qs hq t ih =>
   intro x hx
   rcases List.mem_cons.mp hx with e | hx
   ·subst e
    exact Nl ok (by rw [<- hq.1]; exact hq.2.1)
   ·exact ih x hx
 exact all r x hx
theorem AjL {kvs:List (List Key × V)} (ok:HOk P w H h) (e:H a = some (.dT kvs)):kvs.length <= sizeLine/\(a == sysModules) = false /\
  ∃ xs,KT H kvs xs/\h.DictOfH (tupleKind (Cs P w)) a xs:=Oc ok (.inl e)
end
def DGet (H:Hp) (a:Addr) (y:V) (r:Option V):Prop :=
 (∃ kvs k,Rd H a (.dK kvs)/\y = kV k/\r = Cd kvs k)\/∃ kvs k b,Rd H a (.dT kvs)/\y = .ref b/\H b = some (.tup (k.map kV))/\r = Cd kvs k
def DPut (H:Hp) (a:Addr) (y v:V) (H':Hp):Prop :=
 (∃ kvs k,H a = some (.dK kvs)/\y = kV k/\kvs.length < sizeLine/\H' = upd H a (.dK (Gg kvs k v))) \/
 ∃ kvs k b,H a = some (.dT kvs)/\y = .ref b/\H b = some (.tup (k.map kV))/\kvs.length < sizeLine/\H' = upd H a (.dT (Gg kvs k v))
theorem DGet.k {H:Hp} {a:Addr} {kvs:List (Key × V)} {k:Key} (e:H a = some (.dK kvs)):DGet H a (kV k) (Cd kvs k):=.inl ⟨kvs,k,.inl e,rfl,rfl⟩
theorem DGet.t {H:Hp} {a b:Addr} {kvs:List (List Key × V)} {k:List Key} (e:H a = some (.dT kvs)) (eb:H b = some (.tup (k.map kV))):DGet H a (.ref b) (Cd kvs k):=.inr ⟨kvs,k,b,.inl e,rfl,eb,rfl⟩
theorem DPut.k {H:Hp} {a:Addr} {kvs:List (Key × V)} {k:Key} {v:V} (e:H a = some (.dK kvs)) (hl:kvs.length < sizeLine):DPut H a (kV k) v (upd H a (.dK (Gg kvs k v))):=.inl ⟨kvs,k,e,rfl,hl,rfl⟩
theorem DPut.t {H:Hp} {a b:Addr} {kvs:List (List Key × V)} {k:List Key} {v:V} (e:H a = some (.dT kvs)) (eb:H b = some (.tup (k.map kV))) (hl:kvs.length < sizeLine) :
  DPut H a (.ref b) v (upd H a (.dT (Gg kvs k v))):=.inr ⟨kvs,k,b,e,rfl,eb,hl,rfl⟩
section
variable {X:Cx} {pins:List (Addr × Obj)} {σ:St} {H:Hp} {s:Shared} {a:Addr} {y v:V} {u r:Value} {o:Option V} {A:Around} {E:Value->Shared->Prop}
theorem Inv.big (I:Inv X pins σ H s):sysModules < s.heap.objs.size:=by
 have h:mainGlobals < s.heap.objs.size:=(I.mod.glob.keeps I.bk).lt
 exact Nat.lt_trans (by decide) h
theorem Ady {Q:Value->Shared->Prop} (hu:A.units + 1 < cLine) (I:Inv X pins σ H s) (g:DGet H a y (some v)) (ry:RelV y u) (h:∀ w' s',Inv X pins σ H s'->RelV v w'->Q w' s') :
  wpAny (model X.prog X.w) A (getItem (.ref a) u) Q E s:=by
 rcases g with ⟨kvs,k,e,ey,l⟩ | ⟨kvs,k,b,e,ey,eb,l⟩
 ·subst ey
  obtain ⟨z,hd,vs,rel,dd⟩:=Lq I.hok e
  obtain ⟨w',hw,rw'⟩:=RelO.some_of (v:=v) (o:=valueAt vs k) (by rw [l]; exact rel.val k)
  exact wpAny_getItem_of (Qt ry) dd.mapOf hw (h w' _ (I.tok _) rw')
 ·subst ey
  cases (show u = Value.ref b from ry)
  obtain ⟨z,hd,xs,rel,dd⟩:=Oc I.hok e
  obtain ⟨w',hw,rw'⟩:=RelO.some_of (v:=v) (o:=(atKey xs k).map (·.2)) (by rw [l]; exact rel.val k)
  obtain ⟨p,hp,hp2⟩:=Option.map_eq_some_iff.mp hw
  refine wpAny_getItem_heap (tupleKind_room_in1 hu) (Nl I.hok eb) dd hp ?_
  rw [hp2]
  exact h w' _ (I.tok _) rw'
theorem AkA {Q:Value->Shared->Prop} (hu:A.units + 1 < cLine) (I:Inv X pins σ H s) (g:DGet H a y o) (ry:RelV y u) (h:∀ s',Inv X pins σ H s'->Q (.bool o.isSome) s') :
  wpAny (model X.prog X.w) A (compareOp .In u (.ref a)) Q E s:=by
 rcases g with ⟨kvs,k,e,ey,l⟩ | ⟨kvs,k,b,e,ey,eb,l⟩
 ·subst ey
  obtain ⟨z,hd,vs,rel,dd⟩:=Lq I.hok e
  refine wpAny_in_of (Qt ry) hd dd.mapOf ?_
  rw [<- (rel.val k).isSome_eq,<- l]
  exact h _ (I.tok _)
 ·subst ey
  cases (show u = Value.ref b from ry)
  obtain ⟨z,hd,xs,rel,dd⟩:=Oc I.hok e
  refine wpAny_in_heap (tupleKind_room_in1 hu) (Nl I.hok eb) hd dd ?_
  have q:=(rel.val k).isSome_eq
  rw [Option.isSome_map] at q
  rw [<- q,<- l]
  exact h _ (I.tok _)
theorem AgZ {Q:Value->Shared->Prop} (hu:A.units + 1 < cLine) (I:Inv X pins σ H s) (g:DGet H a y o) (ry:RelV y u) (h:∀ s',Inv X pins σ H s'->Q (.bool (!o.isSome)) s') :
  wpAny (model X.prog X.w) A (compareOp .NotIn u (.ref a)) Q E s:=by
 rcases g with ⟨kvs,k,e,ey,l⟩ | ⟨kvs,k,b,e,ey,eb,l⟩
 ·subst ey
  obtain ⟨z,hd,vs,rel,dd⟩:=Lq I.hok e
  refine wpAny_notIn_of (Qt ry) hd dd.mapOf ?_
  rw [<- (rel.val k).isSome_eq,<- l]
  exact h _ (I.tok _)
 ·subst ey
  cases (show u = Value.ref b from ry)
  obtain ⟨z,hd,xs,rel,dd⟩:=Oc I.hok e
  refine wpAny_notIn_heap (tupleKind_room_in1 hu) (Nl I.hok eb) hd dd ?_
  have q:=(rel.val k).isSome_eq
  rw [Option.isSome_map] at q
  rw [<- q,<- l]
  exact h _ (I.tok _)
theorem AaS {h':Heap} {t':Nat} {ob:HO} (I:Inv X pins σ H s) (mu:Mut (H a)) (hs:Heap.SameBut a s.heap h') (he:∃ q,h'.get? a = some q) (new:ObjOk X.prog X.w (upd H a ob) h' a ob) :
  Inv X pins σ (upd H a ob) { s with heap:=h',toks:=t' } :=
 I.write (x:=a) (e:=a) mu (.inl rfl) (fun b q hb z=>(hs.2 b hb).trans z) he new
theorem Ahu {P:Program} {w:World} {H':Hp} {h':Heap} {kvs:List (Key × V)} {vs:List (Key × Value)} (z:kvs.length <= sizeLine) (hd:(a == sysModules) = false) (rel:KV kvs vs) (dd:h'.DictOf (Cs P w) a vs) :
  ObjOk P w H' h' a (.dK kvs):=⟨z,hd,vs,rel,dd⟩
theorem Ac1 {H':Hp} {Q:Unit->Shared->Prop} (hu:A.units + 1 < cLine) (I:Inv X pins σ H s) (g:DPut H a y v H') (ry:RelV y u) (rv:RelV v r) (h:∀ s',Inv X pins σ H' s'->Q () s') :
  wpAny (model X.prog X.w) A (setItem (.ref a) u r) Q E s:=by
 rcases g with ⟨kvs,k,e,ey,l,eH⟩ | ⟨kvs,k,b,e,ey,eb,l,eH⟩
 ·subst ey eH
  obtain ⟨z,hd,vs,rel,dd⟩:=AjE I.hok e
  have hz:vs.length <= sizeLine:=by rw [<- rel.length]; exact z
  have hl:(Gg kvs k v).length <= sizeLine:=by have:=Tm kvs k v; omega
  refine wpAny_setItem_pairs (hsz:=hz) (Qt ry) dd fun h' dd' hs=>h _ ?_
  have he:∃ q,h'.get? a = some q:=let ⟨q,_,_,hq,_⟩:=dd'; ⟨q,hq⟩
  exact AaS I (by rw [e]; exact True.intro) hs he (Ahu hl hd (rel.put k rv) dd')
 ·subst ey eH
  cases (show u = Value.ref b from ry)
  obtain ⟨z,hd,xs,rel,dd⟩:=AjL I.hok e
  have hz:xs.length <= sizeLine:=by rw [<- Paired.length rel]; exact z
  have hl:(Gg kvs k v).length <= sizeLine:=by have:=Tm kvs k v; omega
  refine wpAny_setItem_heap (hsz:=hz) (tupleKind_room_in1 hu) (Nl I.hok eb) dd fun h' dd' hs=>h _ ?_
  obtain ⟨q,es,ep,hq,h2,h3,h4,_,h5⟩:=dd'
  refine AaS I (by rw [e]; exact True.intro) hs ⟨q,hq⟩ ⟨hl,hd,_,(rel.put k eb rv).keeps fun c ys ec=>?_,q,es,ep,hq,h2,h3,h4,h5⟩
  rw [Bg (Df ec e (fun z=>nomatch z))]
  exact ec
end
section
variable {X:Cx} {pins:List (Addr × Obj)} {σ:St} {H:Hp} {s:Shared} {a:Addr} {kvs:List (Key × V)} {k:Key} {u:Value} {A:Around} {E:Value->Shared->Prop}
theorem Akr {Q:Value->Shared->Prop} (I:Inv X pins σ H s) (e:Rd H a (.dK kvs)) (h:∀ t s',Inv X pins σ H s'->Q (.int kvs.length t) s'):wpAny (model X.prog X.w) A (call (.builtin "len") [.ref a]) Q E s:=by
 obtain ⟨z,hd,vs,rel,dd⟩:=Lq I.hok e
 refine call_len_dict hd dd (by rw [<- rel.length]; rw [sizeLine_eq] at z; omega) ?_
 rw [<- rel.length]
 exact h _ _ (I.tok _)
end
def Ah7 (i:Expr):Prop:=∀ ov iv,subscripted i false ov iv = operate [ov,iv] (getItem ov iv)
theorem AgM {prog:Program} {w:World} {A:Around} {E:Value->Shared->Prop} {s:Shared} {env:Env} {value slice:Expr} {pos:Pos} {T id:String} {Q:Value->Shared->Prop}
  (hl:typeLookup (.type T) "__getitem__" = pure (some (.builtin id))) (hs:Ah7 slice)
  (h:wpAny (model prog w) A (eval value env) (fun o s₁=>wpAny (model prog w) A (eval slice env) (fun i s₂=>s₂.TypeIs o T/\wpAny (model prog w) A (getItem o i) Q E s₂) E s₁) E s) :
  wpAny (model prog w) A (eval (.Subscript value slice pos) env) Q E s:=by
 refine Subscript_ (wpAny_mono h (fun o s₁ h₁=>wpAny_mono h₁ (fun i s₂ h₂=>?_) fun _ _ x=>x) fun _ _ x=>x)
 obtain ⟨hT,h₂⟩:=h₂
 unfold subscriptTail
 refine wpAny_bind ?_
 rw [getitemInPython_of_ne hT.not_modules]
 refine wpAny_bind (wpAny_specialOf hT hl ?_)
 have fin:wpAny (model prog w) A (subscripted slice false o i) (fun r s₃=>wpAny (model prog w) A (letTemporaryGo value o r >>= fun _=>pure r) Q E s₃) E s₂:=by
  rw [hs o i]
  exact wpAny_operating (wpAny_mono h₂ (fun r s₃ h₃=>wpAny_bind (wpAny_letTemporaryGo (wpAny_pure h₃))) fun _ _ x=>x)
 first
  | exact wpAny_pure (wpAny_bind fin)
  | exact wpAny_bind (wpAny_pure (wpAny_bind fin))
  | exact wpAny_bind fin
theorem Aaa {X:Cx} {pins:List (Addr × Obj)} {σ:St} {H:Hp} {s:Shared} {a:Addr} {y:V} {o:Option V} (I:Inv X pins σ H s) (g:DGet H a y o):s.TypeIs (.ref a) "dict":=by
 rcases g with ⟨kvs,k,e,_,_⟩ | ⟨kvs,k,b,e,_,_,_⟩
 ·obtain ⟨_,_,vs,_,dd⟩:=Lq I.hok e
  exact dd.typeIs
 ·obtain ⟨_,_,xs,_,dd⟩:=Oc I.hok e
  exact dd.typeIs
def Xf (td ty:TE):TE:=fun σ H Q=>td σ H fun x H1=>ty σ H1 fun y H2=>∃ a v,x = .ref a/\DGet H2 a y (some v)/\Q v H2
def Abi (ty td:TE):TE:=fun σ H Q=>ty σ H fun y H1=>td σ H1 fun x H2=>∃ a o,x = .ref a/\DGet H2 a y o/\Q (.bl o.isSome) H2
def AaD (ty td:TE):TE:=fun σ H Q=>ty σ H fun y H1=>td σ H1 fun x H2=>∃ a o,x = .ref a/\DGet H2 a y o/\Q (.bl (!o.isSome)) H2
def Xn (td ty tv:TE):TS:=fun D σ H=>tv σ H fun v H1=>td σ H1 fun x H2=>ty σ H2 fun y H3=>∃ a H4,x = .ref a/\DPut H3 a y v H4/\D.nx σ H4
section
variable {X:Cx} {o i e value:Expr} {pos pos' tpos:Pos} {td ty tv:TE}
theorem Nc (hu:X.A.units + 1 < cLine) (ho:PE X o td) (hi:PE X i ty) (hs:Ah7 i):PE X (.Subscript o i pos) (Xf td ty):=by
 intro pins s σ H Q I h
 refine AgM PySem.F.slot_dict_getitem.lookup hs (thn (ho pins s σ H _ I h) fun u s1 ⟨x,H1,I1,rx,q1⟩=>thn (hi pins s1 σ H1 _ I1 q1) fun iv s2 ⟨y,H2,I2,ry,a,v,ex,g,q2⟩=>?_)
 subst ex
 obtain rfl:u = Value.ref a:=rx
 exact ⟨Aaa I2 g,Ady hu I2 g ry fun w' s3 I3 rw'=>⟨v,H2,I3,rw',q2⟩⟩
theorem Ys (hu:X.A.units + 1 < cLine) (hi:PE X i ty) (ho:PE X o td):PC X .In i o (Abi ty td):=by
 intro pins s σ H Q I h
 refine thn (hi pins s σ H _ I h) fun iv s1 ⟨y,H1,I1,ry,q1⟩=>thn (ho pins s1 σ H1 _ I1 q1) fun u s2 ⟨x,H2,I2,rx,a,ov,ex,g,q2⟩=>?_
 subst ex
 obtain rfl:u = Value.ref a:=rx
 exact AkA hu I2 g ry fun s3 I3=>⟨.bl ov.isSome,H2,I3,rfl,q2⟩
theorem Oa (hu:X.A.units + 1 < cLine) (hi:PE X i ty) (ho:PE X o td):PC X .NotIn i o (AaD ty td):=by
 intro pins s σ H Q I h
 refine thn (hi pins s σ H _ I h) fun iv s1 ⟨y,H1,I1,ry,q1⟩=>thn (ho pins s1 σ H1 _ I1 q1) fun u s2 ⟨x,H2,I2,rx,a,ov,ex,g,q2⟩=>?_
 subst ex
 obtain rfl:u = Value.ref a:=rx
 exact AgZ hu I2 g ry fun s3 I3=>⟨.bl (!ov.isSome),H2,I3,rfl,q2⟩
theorem Gn (hu:X.A.units + 1 < cLine) (ho:PE X o td) (hi:PE X i ty) (hv:PE X value tv) (hs:swapsWith value (some (.Subscript o i pos')) pos.line X.env = pure false) :
  PS X (.Assign [.Subscript o i pos'] value pos) (Xn td ty tv):=by
 intro pins s σ H D I h
 refine wpAny_Assign_Subscript (thn (hv pins s σ H _ I h) fun r s1 ⟨v,H1,I1,rv,q1⟩=>thn (ho pins s1 σ H1 _ I1 q1) fun u s2 ⟨x,H2,I2,rx,q2⟩=>thn (hi pins s2 σ H2 _ I2 q2) fun iv s3 ⟨y,H3,I3,ry,a,H4,ex,g,q3⟩=>?_) hs
 subst ex
 obtain rfl:u = Value.ref a:=rx
 exact Ac1 hu I3 g ry rv fun s4 I4=>⟨σ,H4,I4,q3⟩
end
theorem Aeq {P:Program} {w:World} {H:Hp} (h:Heap) (hb:sysModules < h.objs.size):ObjOk P w H (h.push { cls:=.type "dict",data:=.dict #[] }) h.objs.size (.dK []) :=
 ⟨Nat.zero_le _,beq_eq_false_iff_ne.mpr (Ne.symm (Nat.ne_of_lt hb)),[],.nil,Heap.DictOf.new h⟩
theorem Aej {P:Program} {w:World} {H:Hp} (h:Heap) (hb:sysModules < h.objs.size):ObjOk P w H (h.push { cls:=.type "dict",data:=.dict #[] }) h.objs.size (.dT []) :=
 ⟨Nat.zero_le _,beq_eq_false_iff_ne.mpr (Ne.symm (Nat.ne_of_lt hb)),[],.nil,_,#[],0,Heap.get?_push_size _ rfl,⟨rfl,rfl,rfl⟩,rfl,rfl,List.nodup_nil⟩
def Xw:TE:=fun _ H Q=>∀ p,H p = none->Q (.ref p) (upd H p (.dK []))
def Yx:TE:=fun _ H Q=>∀ p,H p = none->Q (.ref p) (upd H p (.dT []))
section
variable {X:Cx} {pos:Pos}
theorem Jx:PE X (.Dict [] [] pos) Xw:=fun pins s σ H Q I h =>
 wpAny_Dict_empty ⟨.ref s.heap.objs.size,_,I.laid (a:=s.heap.objs.size) (o:=.dK []) (t':=s.toks) (fun _ _ q=>Heap.get?_push_of_some _ q) (Nat.le_refl _) (Aeq s.heap I.big),rfl,h _ (I.hok.fresh (Nat.le_refl _))⟩
theorem Yi:PE X (.Dict [] [] pos) Yx:=fun pins s σ H Q I h =>
 wpAny_Dict_empty ⟨.ref s.heap.objs.size,_,I.laid (a:=s.heap.objs.size) (o:=.dT []) (t':=s.toks) (fun _ _ q=>Heap.get?_push_of_some _ q) (Nat.le_refl _) (Aej s.heap I.big),rfl,h _ (I.hok.fresh (Nat.le_refl _))⟩
end
structure M1 (X:Cx) (o:Expr) (m:Str) (apos:Pos) (e:Expr) (cpos:Pos):Prop where
 base:attributeBase o m X.env (eval o X.env) = eval o X.env
 few:((backTo cpos (starEach [e] X.env)).all (fun x=>!x.1) && (backToKw cpos (keywordEach [] X.env)).all (fun x=>x.1.isSome)
  && decide (([e]:List Expr).length + ([]:List Keyword).length + (if ([]:List Keyword).isEmpty then 0 else 1) < 30)) = true
 line:(apos.endLine == cpos.line) = true
 trees:backTo cpos (starEach [e] X.env) = [(false,eval e X.env)]
structure M2 (X:Cx) (o:Expr) (m:Str) (apos:Pos) (e f:Expr) (cpos:Pos):Prop where
 base:attributeBase o m X.env (eval o X.env) = eval o X.env
 few:((backTo cpos (starEach [e,f] X.env)).all (fun x=>!x.1) && (backToKw cpos (keywordEach [] X.env)).all (fun x=>x.1.isSome)
  && decide (([e,f]:List Expr).length + ([]:List Keyword).length + (if ([]:List Keyword).isEmpty then 0 else 1) < 30)) = true
 line:(apos.endLine == cpos.line) = true
 trees:backTo cpos (starEach [e,f] X.env) = [(false,eval e X.env),(false,eval f X.env)]
def IsD (H:Hp) (a:Addr):Prop:=(∃ kvs,Rd H a (.dK kvs))\/∃ kvs,Rd H a (.dT kvs)
theorem Adp {X:Cx} {pins:List (Addr × Obj)} {σ:St} {H:Hp} {s:Shared} {a:Addr} (I:Inv X pins σ H s) (d:IsD H a) :
  s.TypeIs (.ref a) "dict"/\(∀ b,Value.ref a = .ref b->∃ ob,s.heap.get? b = some ob/\ob.dict = none)/\(a == sysModules) = false:=by
 rcases d with ⟨kvs,e⟩ | ⟨kvs,e⟩
 ·obtain ⟨_,hd,vs,_,dd⟩:=Lq I.hok e
  refine ⟨dd.typeIs,fun b q=>?_,hd⟩
  cases q
  obtain ⟨ob,_,_,h1,h2,_⟩:=dd
  exact ⟨ob,h1,h2.2.1⟩
 ·obtain ⟨_,hd,xs,_,dd⟩:=Oc I.hok e
  refine ⟨dd.typeIs,fun b q=>?_,hd⟩
  cases q
  obtain ⟨ob,_,_,h1,h2,_⟩:=dd
  exact ⟨ob,h1,h2.2.1⟩
section
variable {X:Cx} {pins:List (Addr × Obj)} {σ:St} {H:Hp} {s:Shared} {a:Addr} {y d:V} {u r:Value} {o:Option V} {A:Around} {E:Value->Shared->Prop}
theorem Aiy {Q:Value->Shared->Prop} (hu:A.units + 1 < cLine) (I:Inv X pins σ H s) (g:DGet H a y o) (ry:RelV y u) (h:∀ w' s',Inv X pins σ H s'->RelV (o.getD .non) w'->Q w' s') :
  wpAny (model X.prog X.w) A (call (.builtin "dict.get") [.ref a,u]) Q E s:=by
 rcases g with ⟨kvs,k,e,ey,l⟩ | ⟨kvs,k,b,e,ey,eb,l⟩
 ·subst ey
  obtain ⟨z,hd,vs,rel,dd⟩:=Lq I.hok e
  refine call_meetsIn PySem.F.slot_dict_get dd.typeIs PySem.F.entry_dict_get (PySem.F.args_dict_get_2 _ _) (meets_dict_get (Cs X.prog X.w) a (Qt ry) hd) ⟨_,dd.mapOf,h _ _ (I.tok _) ?_⟩
  rw [l]
  exact (rel.val k).getD rfl
 ·subst ey
  cases (show u = Value.ref b from ry)
  obtain ⟨z,hd,xs,rel,dd⟩:=Oc I.hok e
  refine call_meetsIn PySem.F.slot_dict_get dd.typeIs PySem.F.entry_dict_get (PySem.F.args_dict_get_2 _ _) (meetsH_dict_get (tupleKind (Cs X.prog X.w)) a b hd) ⟨tupleKind_room_in1 hu,k,xs,Nl I.hok eb,dd,h _ _ (I.tok _) ?_⟩
  rw [l]
  exact (rel.val k).getD rfl
theorem Aji {Q:Value->Shared->Prop} (hu:A.units + 1 < cLine) (I:Inv X pins σ H s) (g:DGet H a y o) (ry:RelV y u) (rd:RelV d r) (h:∀ w' s',Inv X pins σ H s'->RelV (o.getD d) w'->Q w' s') :
  wpAny (model X.prog X.w) A (call (.builtin "dict.get") [.ref a,u,r]) Q E s:=by
 rcases g with ⟨kvs,k,e,ey,l⟩ | ⟨kvs,k,b,e,ey,eb,l⟩
 ·subst ey
  obtain ⟨z,hd,vs,rel,dd⟩:=Lq I.hok e
  refine call_meetsIn PySem.F.slot_dict_get dd.typeIs PySem.F.entry_dict_get (PySem.F.args_dict_get_3 _ _ _) (meets_dict_get_default (Cs X.prog X.w) a (Qt ry) hd r) ⟨_,dd.mapOf,h _ _ (I.tok _) ?_⟩
  rw [l]
  exact (rel.val k).getD rd
 ·subst ey
  cases (show u = Value.ref b from ry)
  obtain ⟨z,hd,xs,rel,dd⟩:=Oc I.hok e
  refine call_meetsIn PySem.F.slot_dict_get dd.typeIs PySem.F.entry_dict_get (PySem.F.args_dict_get_3 _ _ _) (meetsH_dict_get_default (tupleKind (Cs X.prog X.w)) a b hd r) ⟨tupleKind_room_in1 hu,k,xs,Nl I.hok eb,dd,h _ _ (I.tok _) ?_⟩
  rw [l]
  exact (rel.val k).getD rd
end
def Adj (td ty:TE):TE:=fun σ H Q=>td σ H fun x H1=>∃ a,x = .ref a/\IsD H1 a/\ty σ H1 fun y H2=>∃ o,DGet H2 a y o/\Q (o.getD .non) H2
def Yk (td ty tx:TE):TE:=fun σ H Q=>td σ H fun x H1=>∃ a,x = .ref a/\IsD H1 a/\ty σ H1 fun y H2=>tx σ H2 fun z H3=>∃ o,DGet H3 a y o/\Q (o.getD z) H3
section
variable {X:Cx} {o e f:Expr} {apos cpos:Pos} {td ty tx:TE}
theorem Xp (hu:X.A.units + 1 < cLine) (ho:PE X o td) (he:PE X e ty) (m:M1 X o "get" apos e cpos):PE X (.Call (.Attribute o "get" apos) [e] [] cpos) (Adj td ty):=by
 intro pins s σ H Q I h
 refine wpAny_Call_method m.base m.few m.line PySem.F.plainAttrs_dict PySem.F.slot_dict_get PySem.F.type_dict_get (thn (ho pins s σ H _ I h) fun u s1 ⟨x,H1,I1,rx,a,ex,d,q1⟩=>?_)
 subst ex
 obtain rfl:u = Value.ref a:=rx
 obtain ⟨t1,t2,_⟩:=Adp I1 d
 refine ⟨t1,t2,?_⟩
 rw [m.trees]
 refine Calls.callWith_builtin rfl (Calls.evalArgs_plain (Calls.spliced_cons (thn (he pins s1 σ H1 _ I1 q1) fun iv s2 ⟨y,H2,I2,ry,ov,g,q2⟩=>Calls.spliced_nil ?_)))
 exact Aiy hu I2 g ry fun w' s3 I3 rw'=>⟨_,H2,I3,rw',q2⟩
theorem Ub (hu:X.A.units + 1 < cLine) (ho:PE X o td) (he:PE X e ty) (hf:PE X f tx) (m:M2 X o "get" apos e f cpos):PE X (.Call (.Attribute o "get" apos) [e,f] [] cpos) (Yk td ty tx):=by
 intro pins s σ H Q I h
 refine wpAny_Call_method m.base m.few m.line PySem.F.plainAttrs_dict PySem.F.slot_dict_get PySem.F.type_dict_get (thn (ho pins s σ H _ I h) fun u s1 ⟨x,H1,I1,rx,a,ex,d,q1⟩=>?_)
 subst ex
 obtain rfl:u = Value.ref a:=rx
 obtain ⟨t1,t2,_⟩:=Adp I1 d
 refine ⟨t1,t2,?_⟩
 rw [m.trees]
 refine Calls.callWith_builtin rfl (Calls.evalArgs_plain (Calls.spliced_cons (thn (he pins s1 σ H1 _ I1 q1) fun iv s2 ⟨y,H2,I2,ry,q2⟩ =>
  Calls.spliced_cons (thn (hf pins s2 σ H2 _ I2 q2) fun fv s3 ⟨z,H3,I3,rz,ov,g,q3⟩=>Calls.spliced_nil ?_))))
 exact Aji hu I3 g ry rz fun w' s4 I4 rw'=>⟨_,H3,I4,rw',q3⟩
end
section
variable {X:Cx} {pins:List (Addr × Obj)} {σ:St} {H:Hp} {s:Shared} {a:Addr} {kvs:List (Key × V)} {A:Around} {E:Value->Shared->Prop}
end
section
variable {X:Cx} {pins:List (Addr × Obj)} {σ:St} {H:Hp} {s:Shared} {a:Addr} {y:V} {u:Value} {A:Around} {E:Value->Shared->Prop}
end
end L2
namespace Att
open PySem PySem.W PySem.Calls PyProof.Rows
theorem Vg {P:Params} {h:Heap}:∀ (ns:List Int) (vs:List Value),WellAll P h vs (ns.map WData.int)->IntsAre vs ns:=by
 intro ns
 induction ns with
 | nil =>
  intro vs w
  rw [List.map_nil] at w
  cases w
  exact .nil
 | cons n ns ih =>
  intro vs w
  rw [List.map_cons] at w
  cases w with
  | cons a b =>
   cases a
   exact .cons _ _ (ih _ b)
theorem Adu {l:OpenLaw} {n:Nat} (hn:l.most = some n) {P:Params} {h:Heap} {args:List WData} {vals:List Value}
  (hpre:l.row.toRowW.claim.pre args = true) (hwl:WellAll P h vals args) :
  ∃ a vs ns,vals = [Value.ref a]/\args = [WData.list (ns.map WData.int)]/\h.get? a = some { cls:=.type "list",data:=.seq vs.toArray }/\IntsAre vs ns/\ns.length <= n:=by
 have hsh:WShape.hasAll [] args [.list .int] = true:=(pre_splitW hpre).1
 have hc:l.pre.holds [] { args:=args } = true:=(pre_splitW hpre).2
 obtain ⟨d,r,rfl,h1,h2⟩:=hasAllW_cons hsh
 obtain rfl:=hasAllW_nil h2
 obtain ⟨xs,rfl,h3⟩:=hasW_list h1
 obtain ⟨ns,rfl⟩:=items_int h3
 have hlen:ns.length <= n:=by
  unfold OpenLaw.pre at hc
  have h4:(WTm.not (.lt (.lit (.int (n:Int))) (.len (.arg 0)))).holds [] { args:=[.list (ns.map .int)] } = true:=by
   have h4:=(holds_andW hc).1
   rw [hn] at h4
   exact h4
  have h5:=condW_of h4 (w_not (w_lt w_lit (w_len_list (w_arg rfl))))
  rw [List.length_map] at h5
  refine Nat.le_of_not_lt fun q=>?_
  have q':(n:Int) < ((ns.length:Nat):Int):=by omega
  first
   | (rw [decide_eq_true q'] at h5; exact absurd h5 (by decide))
   | (simp at h5; omega)
 cases hwl with
 | cons w1 w2 =>
  cases w2
  cases w1 with
  | list ho hall=>exact ⟨_,_,ns,rfl,rfl,ho,Vg ns _ hall,hlen⟩
theorem AdD (l:OpenLaw) (args:List WData):l.row.toRowW.claim.post args (.bool true) args = true :=
 postW_of (r:=l.row.toRowW) (X:=(true == true))
  (show WShape.has [] (.bool true) .bool = true by first | rfl | decide | simp [WShape.has,WShape.arms,WShape.armsAll])
  (show (WTm.eq .res (.lit (.bool true))).value [] { args:=args,res:=some (.bool true),after:=args } = some (.bool (true == true)) from w_eq_bool (w_res rfl) w_lit) rfl
theorem attach_call {l:OpenLaw} {n:Nat} {q:Program} {loose:List Str} {XP:(Str->Option Value)->Heap->Prop} {YP:World->Heap->Prop} {d:DefRec}
  (hn:l.most = some n) (hdf:d.params.defaults = [])
  (call:∀ (w:World) (s₀ s₁:Shared) (mg mb:Str->Option Value) (fa:Addr) (o:Obj) (pm cd doc:Value) (a:Addr) (vs:List Value) (ns:List Int),
   Ground q loose [] XP w s₀ mg mb s₁.heap->YP w s₁.heap ->
   s₁.heap.get? fa = some o->o.data = .func (docDef d.name d.params d.body d.scope pm cd doc)->s₁.heap.CodeRec cd d.name->mg d.name = some (.ref fa) ->
   s₁.heap.get? a = some { cls:=.type "list",data:=.seq vs.toArray }->IntsAre vs ns->ns.length <= n->s₁.gens = #[] ->
   codeAny (model l.prog w) callerA (.call (.ref fa) ⟨[.ref a],[]⟩) (fun r s'=>r = .ok (.ret (.bool true))/\OldK s₁.heap s'.heap/\s'.os = s₁.os/\AllBare s'.gens) s₁) :
  WalkO q loose XP YP l.row.toRowW d [] (fun f vs=>PySem.call f vs):=by
 intro w s₀ s₁ mg mb G Y fa o pm cd doc dV kV ho hd hcd hD hmg hg args vals as hpre hlay hrd hwl hlo
 obtain rfl:dV = .none:=Dflts.none hD hdf
 obtain rfl:kV = .none:=Dflts.noKw hD
 obtain ⟨a,vs,ns,rfl,rfl,hobj,hints,hlen⟩:=Adu hn hpre hwl
 refine enter_call (codeAny_mono (call w s₀ s₁ mg mb fa o pm cd doc a vs ns G Y ho (fd_plain hd) hcd hmg hobj hints hlen hg) fun r s' hq=>?_)
 obtain ⟨rfl,h2,h3,h4⟩:=hq
 exact ⟨.inl ⟨.bool true,.bool true,[],rfl,fun _=>rfl,.bool true,AdD l _,fun _=>⟨List.Pairwise.nil,fun _ hm=>(nomatch hm)⟩⟩,h2,h3,h4⟩
section
variable {prog:Program} {w:World} {A:Around} {E:Value->Shared->Prop} {s:Shared} {K:Frag}
end
end Att
namespace L2
open PySem PySem.Spec PyProof.Rows
theorem Wu:∀ {vs:List Value} {ns:List Int},IntsAre vs ns->Vals (ns.map V.int) vs
 | _,_,.nil=>.nil
 | _,_,.cons n t h=>.cons ⟨t,rfl⟩ (Wu h)
def Aex (H:Hp):Prop:=∀ b,H b = none\/∃ o xs,H b = some (.frz o (.lst xs))
theorem Aeu {P:Program} {w:World} {K:PySem.W.Frag} {mg mb:Str->Option Value} {CX:CXT} {k:Nat} {fa a:Addr} {fd:FuncData} {x:Str} {sp:Sp} {s₁:Shared} {vs:List Value} {ns:List Int}
  (KX:K.In s₁.heap) (hns:s₁.heap.Ns mainGlobals mg) (hb:s₁.heap.Ns builtinsNs mb) (hbb:∀ x:Str,x ≠ "__name__"->mb x = bootBuiltins x) (hlim:s₁.heap.NoLimit) (hg:s₁.gens = #[])
  (ha:s₁.heap.get? a = some { cls:=.type "list",data:=.seq vs.toArray }) (hi:IntsAre vs ns) (hl:ns.length <= sizeLine) (hr:Room k callerA)
  (F:∀ base:Heap,K.In base->base.Ns mainGlobals mg->FnOk P w K mg base CX k fa fd [x] sp) (hbind:∀ (s:Shared) (u:Value),BindsTo s fd ⟨[u],[]⟩ [(x,u)])
  (hsp:∀ H:Hp,Aex H->SqL K H a (ns.map V.int)->sp [.ref a] H (fun v _=>v = .bl true) fun _ _ _=>False)
  (hCX:∀ H e s',CX [] H s₁ (fun _ _ _=>False) e s'->False) :
  codeAny (model P w) callerA (.call (.ref fa) ⟨[.ref a],[]⟩) (fun r s'=>r = .ok (.ret (.bool true))/\OldK s₁.heap s'.heap/\s'.os = s₁.os/\AllBare s'.gens) s₁:=by
 have rv:=Wu hi
 have lenV:=hi.length
 -- from an abstract heap in which nothing but the script may be tracked
 have core:∀ H:Hp,Aex H->SqL K H a (ns.map V.int)->HOk P w H s₁.heap->(∀ b,H b ≠ none->b = a)->(H a ≠ none->K.lookup a = none) ->
   codeAny (model P w) callerA (.call (.ref fa) ⟨[.ref a],[]⟩) (fun r s'=>r = .ok (.ret (.bool true))/\OldK s₁.heap s'.heap/\s'.os = s₁.os/\AllBare s'.gens) s₁:=by
  intro H hO hS hok hA hK
  have base_of:∀ {b:Addr} {o:Obj},s₁.heap.get? b = some o->H b = none->(Ri s₁.heap H).get? b = some o:=fun e n=>AeL e n
  have noA:∀ {b:Addr} {o:Obj} {es:Array DictEntry} {ep:Nat},s₁.heap.get? b = some o->o.data = .dict es ep->H b = none:=fun {b o es ep} e d=>by
   cases q:H b with
   | none=>rfl
   | some u =>
    have e':b = a:=hA b (by rw [q]; simp)
    subst e'
    rw [ha] at e; cases e
    have d':Data.seq vs.toArray _ = Data.dict es ep:=d
    cases d'
  have nsK:∀ {b:Addr} {m:Str->Option Value},s₁.heap.Ns b m->(Ri s₁.heap H).Ns b m:=fun {b m} ⟨o,es,ep,e,d,r⟩=>⟨o,es,ep,base_of e (noA e d),d,r⟩
  have hKb:K.In (Ri s₁.heap H):=fun b o e=>base_of (KX b o e) (by
   cases q:H b with
   | none=>rfl
   | some u =>
    have e':b = a:=hA b (by rw [q]; simp)
    subst e'
    rw [hK (by rw [q]; simp)] at e; cases e)
  have hM:Mod K mg (Ri s₁.heap H):=⟨hKb,nsK hns,⟨mb,nsK hb,hbb⟩,let ⟨mc,h1,h2⟩:=hlim; ⟨mc,nsK h1,h2⟩⟩
  have e0:Env0 P w K mg (Ri s₁.heap H) callerA [] s₁ H:=⟨rfl,hM,fun b o e=>AgW e,Nat.le_of_eq (Adn _ _),trivial,fun b hb=>absurd (show b ∈ ([]:List Addr) from hb) (by simp),hok,.of_eq hg⟩
  refine codeAny_mono ((F _ hKb (nsK hns)).run callerA [] s₁ H ⟨[.ref a],[]⟩ [.ref a] [.ref a] _ _ hr e0 (hbind s₁ (.ref a)) (.cons rfl .nil) (hsp H hO hS)) fun r s' h=>?_
  cases r with
  | error e=>exact (hCX H e s' h).elim
  | ok fl =>
   cases fl with
   | next=>exact False.elim h
   | brk=>exact False.elim h
   | cont=>exact False.elim h
   | ret u =>
    obtain ⟨v,H',os,bare,un,hok',r',q⟩:=h
    have q':v = .bl true:=q
    subst q'
    obtain rfl:u = Value.bool true:=r'
    refine ⟨rfl,OldK.of_keep fun b o e=>?_,os,bare⟩
    cases q:H b with
    | none=>exact un.keep b o e q (by intro z; exact absurd (show b ∈ ([]:List Addr) from z) (by simp)) (by simp)
    | some u =>
     rcases hO b with z | ⟨ob,xs,z⟩
     ·rw [q] at z; cases z
     ·have z2:=un.frzs b ob _ z
      obtain ⟨e1,_⟩:=hok b _ z
      obtain ⟨e2,_⟩:=hok' b _ z2
      rw [e] at e1; cases e1
      exact e2
 cases hk:K.lookup a with
 | some o =>
  -- the script is one of the module's own objects
  have e:=KX a o hk
  rw [ha] at e
  cases e
  refine core (fun _=>none) (fun _=>.inl rfl) (.inr ⟨_,vs.toArray,_,hk,rfl,rfl,rfl,by rw [List.size_toArray,lenV]; exact hl,by simpa using rv⟩) (fun b u z=>by have z':(none:Option HO) = some u:=z; cases z') (fun b z=>absurd rfl z) fun z=>absurd rfl z
 | none =>
  refine core (fun b=>if b = a then some (.frz { cls:=.type "list",data:=.seq vs.toArray } (.lst (ns.map V.int))) else none) (fun b=>?_) (.inl (.inr ⟨{ cls:=.type "list",data:=.seq vs.toArray },if_pos rfl⟩)) (fun b u z=>?_) (fun b z=>?_) fun _=>hk
  ·by_cases hb:b = a
   ·exact .inr ⟨_,_,if_pos hb⟩
   ·exact .inl (if_neg hb)
  ·by_cases hb:b = a
   ·have z':=(if_pos hb).symm.trans z
    cases z'
    subst hb
    exact ⟨ha,by rw [List.length_map]; exact hl,vs,_,rv,ha⟩
   ·have z':=(if_neg hb).symm.trans z
    cases z'
  ·by_cases hb:b = a
   ·exact hb
   ·exact absurd (if_neg hb) z
end L2
namespace L2
open PySem PySem.Spec PyProof.Rows
theorem Ak5 {l:PySem.W.OpenLaw} {n k:Nat} {q:Program} {loose:List Str} {XP:(Str->Option Value)->Heap->Prop} {YP:World->Heap->Prop} {d:DefRec} {K:Params->PySem.W.Frag} {CX:World->CXT} {sp:World->Sp} {x:Str}
  (hn:l.most = some n) (hn2:n <= sizeLine) (hdf:d.params.defaults = []) (hr:Room k callerA)
  (hY:∀ (w:World) (h:Heap),YP w h->(K w.params).In h)
  (F:∀ (w:World) (mg:Str->Option Value) (fa:Addr) (h:Heap),(K w.params).In h->h.Ns mainGlobals mg->mg d.name = some (.ref fa) ->
   ∃ fd:FuncData,(∀ (s:Shared) (u:Value),BindsTo s fd ⟨[u],[]⟩ [(x,u)]) /\
    ∀ base:Heap,(K w.params).In base->base.Ns mainGlobals mg->FnOk l.prog w (K w.params) mg base (CX w) k fa fd [x] (sp w))
  (hsp:∀ (w:World) (H:Hp) (a:Addr) (ns:List Int),ns.length <= n->Aex H->SqL (K w.params) H a (ns.map V.int)->sp w [.ref a] H (fun v _=>v = .bl true) fun _ _ _=>False)
  (hCX:∀ (w:World) (H:Hp) (s:Shared) (e:Value) (s':Shared),CX w [] H s (fun _ _ _=>False) e s'->False) :
  PySem.W.WalkO q loose XP YP l.row.toRowW d [] (fun f vs=>PySem.call f vs):=by
 refine Att.attach_call hn hdf fun w s₀ s₁ mg mb fa o pm cd doc a vs ns G Y ho hd hcd hmg hobj hints hlen hg=>?_
 have KX:=hY w _ Y
 obtain ⟨fd,hb,hF⟩:=F w mg fa _ KX G.T.g hmg
 exact Aeu KX G.T.g G.T.b G.T.builtins G.T.nolimit hg hobj hints (Nat.le_trans hlen hn2) hr hF hb (fun H hO hS=>hsp w H a ns hlen hO hS) fun H e s'=>hCX w H s₁ e s'
end L2
namespace L2
open PySem PySem.Spec PyProof.Rows
def Ot (s:Stmt) (j:Nat):Stmt:=match s with
 | .ClassDef _ _ _ body _ _ _ _ _ _ _=>body.getD j (.Pass ⟨0,0,0,0⟩)
 | _=>.Pass ⟨0,0,0,0⟩
def Bj (s:Stmt):Arguments:=match s with
 | .FunctionDef _ a _ _ _ _ _ _ _ _=>a
 | _=>{ posonlyargs:=[],args:=[],vararg:=none,kwonlyargs:=[],kw_defaults:=[],kwarg:=none,defaults:=[] }
def Bi (s:Stmt):List Stmt:=match s with
 | .FunctionDef _ _ b _ _ _ _ _ _ _=>b
 | _=>[]
def Bd (s:Stmt):Scope:=match s with
 | .FunctionDef _ _ _ _ _ _ sc _ _ _=>sc
 | _=>{ kind:=.function,names:=[],isGenerator:=false,isCoroutine:=false }
structure Fun (K:PySem.W.Frag) (x qual:Str) (st:Stmt) (f:Addr) (fd:FuncData):Prop where
 ex:∃ (oc:Value) (od:Option Addr) (kV doc pm:Value) (an:Option Addr) (cdv ct:Value) (osl:Array (Option Value)),
  fd = PySem.W.fnOf x qual (Bj st) (Bi st) (Bd st) .none kV doc pm an cdv ct/\K.lookup f = some ⟨oc,od,.func fd,osl⟩/\PySem.W.codeIn K cdv qual = true
 kp:PySem.W.keepIn K (.ref f) = true
section
variable {P:Program} {w:World} {K:PySem.W.Frag} {mg:Str->Option Value} {base:Heap}
theorem Fun.binds {x qual:Str} {st:Stmt} {f:Addr} {fd:FuncData} {ps:List Str} (F:Fun K x qual st f fd)
  (h:∀ (kV doc pm:Value) (an:Option Addr) (cdv ct:Value) (us:List Value),us.length = ps.length->bindArgs (PySem.W.fnOf x qual (Bj st) (Bi st) (Bd st) .none kV doc pm an cdv ct) ⟨us,[]⟩ = pure (ps.zip us)):Binds K fd ps []:=by
 obtain ⟨oc,od,kV,doc,pm,an,cdv,ct,osl,rfl,lk,hcd⟩:=F.ex
 exact .all (h kV doc pm an cdv ct)
theorem Ch {x qual:Str} {st:Stmt} {f:Addr} {oc:Value} {od an:Option Addr} {osl:Array (Option Value)} {kV doc pm cdv ct:Value} (l:K.lookup f = some ⟨oc,od,.func (PySem.W.fnOf x qual (Bj st) (Bi st) (Bd st) .none kV doc pm an cdv ct),osl⟩)
  (c:PySem.W.codeIn K cdv qual = true) (k:PySem.W.keepIn K (.ref f) = true):Fun K x qual st f (PySem.W.fnOf x qual (Bj st) (Bi st) (Bd st) .none kV doc pm an cdv ct):=⟨⟨oc,od,kV,doc,pm,an,cdv,ct,osl,rfl,l,c⟩,k⟩
end
theorem Co {A:Around} {k:Nat} (hr:Room k A):A.units + 1 < cLine:=Nat.lt_of_le_of_lt (Nat.add_le_add_left (by decide:1 <= 64) _) hr.units
theorem Jf {n:Nat} (h:n <= 1000):n < sizeLine:=Nat.lt_of_le_of_lt h (by decide)
section
variable {X:Cx}
theorem pv (i:Nat) {x:Str} {pos:Pos} (hN:X.N[i]? = some x:=by rfl) (hv:Vis X.env.scope x:=by first | exact Or.inl rfl | exact Or.inr (Or.inl rfl) | exact Or.inr (Or.inr rfl)) (hd:(x == ("__debug__" : Str)) = false:=by decide)
  (hcd:(x == ("__classdict__" : Str)) = false:=by decide):PE X (.Name x pos) (Gy i):=Ahz hN hv hd hcd
theorem Wt:Gw X (.builtin "len") (fun xs H Q=>∃ a kvs,xs = [V.ref a]/\H a = some (.dK kvs)/\Q (.int kvs.length) H):=by
 intro pins s σ H xs us Q I r h
 obtain ⟨a,kvs,rfl,ha,q⟩:=h
 obtain ⟨u,rfl,ru⟩:=Sv r
 cases ru
 exact Akr I (.inl ha) fun t s' I'=>⟨.int kvs.length,H,I',⟨t,rfl⟩,q⟩
end
theorem Nt {A B:Prop} (h:B):if false = true then A else B:=by
 rw [if_neg Bool.false_ne_true]
 exact h
theorem Lh {A B:Prop} (h:A):if true = true then A else B:=by
 rw [if_pos rfl]
 exact h
theorem Nm {c A B:Prop} [Decidable c] (h1:c->A) (h2:¬ c->B):if c then A else B:=by
 by_cases h:c
 ·rw [if_pos h]
  exact h1 h
 ·rw [if_neg h]
  exact h2 h
def Same (H H':Hp):Prop:=∀ b o,H b = some o->H' b = some o
theorem Same.refl (H:Hp):Same H H:=fun _ _ h=>h
theorem Same.trans {H H1 H2:Hp} (a:Same H H1) (b:Same H1 H2):Same H H2:=fun c o h=>b c o (a c o h)
theorem Same.free {H H':Hp} (e:Same H H') {l:Addr} (h:H' l = Option.none):H l = Option.none:=by
 cases q:H l with
 | none=>rfl
 | some o =>
  rw [e l o q] at h
  cases h
theorem Same.seq {K:PySem.W.Frag} {H H':Hp} {a:Addr} {xs:List V} (e:Same H H') (h:SqL K H a xs):SqL K H' a xs:=by
 rcases h with (h | ⟨o,h⟩) | h
 ·exact .inl (.inl (e _ _ h))
 ·exact .inl (.inr ⟨o,e _ _ h⟩)
 ·exact .inr h
section
variable {κ:Type} [DecidableEq κ]
theorem AaB {kvs:List (κ × V)} {k:κ} {v:V} (h:Cd kvs k = some v):k ∈ kvs.map (·.1):=by
 have q:(kvs.any fun kv=>decide (kv.1 = k)) = true:=by
  rw [Qm,h]
  all_goals rfl
 obtain ⟨p,hp,e⟩:=List.any_eq_true.mp q
 exact List.mem_map.mpr ⟨p,hp,of_decide_eq_true e⟩
end
end L2
set_option Elab.async false
set_option linter.all false
set_option maxRecDepth 100000
set_option maxHeartbeats 4000000
namespace L2
open PySem PySem.Spec PyProof.Rows
section
variable {X:Cx}
theorem Gs:Gw X (.builtin "isinstance") (fun vs H Q=>∃ x n t b,vs = [x,.ty n]/\Gf X.K H x t/\PySem.W.kitOne X.K t (.type n) = some b/\Q (.bl b) H):=by
 intro pins s σ H vs us Q I r h
 obtain ⟨x,n,t,b,rfl,ty,e,q⟩:=h
 obtain ⟨u,w',rfl,rx,ry⟩:=Age r
 cases ry
 exact AcD I rx ty e fun tk=>⟨.bl b,H,I.tok tk,rfl,q⟩
end
theorem Sh {K:PySem.W.Frag} {T S:String} {b:Bool} (h:(if (Value.type T == Value.type S) = true then some true else if PySem.W.kitMeta S = true then (fastBuiltinMro T).map (·.contains (Value.type S)) else none) = some b):PySem.W.kitOne K (.type T) (.type S) = some b:=h
theorem Aah {K:PySem.W.Frag}:PySem.W.kitOne K (.type "int") (.type "int") = some true:=Sh (by decide +kernel)
theorem Yb {K:PySem.W.Frag}:PySem.W.kitOne K (.type "int") (.type "bool") = some false:=Sh (by decide +kernel)
theorem Aae {K:PySem.W.Frag}:PySem.W.kitOne K (.type "str") (.type "str") = some true:=Sh (by decide +kernel)
theorem Xa {K:PySem.W.Frag}:PySem.W.kitOne K (.type "list") (.type "list") = some true:=Sh (by decide +kernel)
theorem Aaf {K:PySem.W.Frag}:PySem.W.kitOne K (.type "tuple") (.type "tuple") = some true:=Sh (by decide +kernel)
inductive EqD (K:PySem.W.Frag) (H:Hp):Nat->V->V->Bool->Prop where
 | flat {n:Nat} {x y:V} (hx:Jq x = true) (hy:Jq y = true):EqD K H n x y (eqV x y)
 | same {n:Nat} (a:Addr):EqD K H n (.ref a) (.ref a) true
 | lst {n:Nat} {a b:Addr} {xs ys:List V} (e:Nat->Bool) (ne:a ≠ b) (hx:SqL K H a xs) (hy:SqL K H b ys) (hl:xs.length = ys.length)
   (he:∀ (i:Nat) (x y:V),xs[i]? = some x->ys[i]? = some y->EqD K H n x y (e i)):EqD K H (n + 1) (.ref a) (.ref b) ((List.range xs.length).all e)
 | lstN {n:Nat} {a b:Addr} {xs ys:List V} (ne:a ≠ b) (hx:SqL K H a xs) (hy:SqL K H b ys) (hl:¬ xs.length = ys.length):EqD K H (n + 1) (.ref a) (.ref b) false
 | tup {n:Nat} {a b:Addr} {xs ys:List V} (e:Nat->Bool) (ne:a ≠ b) (hx:SqT K H a xs) (hy:SqT K H b ys)
   (he:∀ (i:Nat) (x y:V),xs[i]? = some x->ys[i]? = some y->EqD K H n x y (e i)):EqD K H (n + 1) (.ref a) (.ref b) ((List.range (min xs.length ys.length)).all e && xs.length == ys.length)
section
variable {X:Cx} {pins:List (Addr × Obj)} {σ:St} {H:Hp} {s:Shared}
theorem Jj (A:Around):A.in1.units = A.units + 1:=rfl
theorem Nk {xs ys:List V} {us vs:List Value} {R:Nat->Value->Value->Prop} (r1:Vals xs us) (r2:Vals ys vs)
  (h:∀ (i:Nat) (x y:V) (u v:Value),xs[i]? = some x->ys[i]? = some y->RelV x u->RelV y v->R i u v) :
  ∀ j (h1:j < us.toArray.size) (h2:j < vs.toArray.size),R j us.toArray[j] vs.toArray[j]:=by
 intro j h1 h2
 have h1':j < us.length:=by simpa using h1
 have h2':j < vs.length:=by simpa using h2
 have l1:j < xs.length:=by rw [r1.length]; exact h1'
 have l2:j < ys.length:=by rw [r2.length]; exact h2'
 obtain ⟨u,eu,ru⟩:=r1.get (i:=j) (x:=xs[j]) (by simp [l1])
 obtain ⟨v,ev,rv⟩:=r2.get (i:=j) (x:=ys[j]) (by simp [l2])
 have eu':us[j] = u:=by simpa [h1'] using eu
 have ev':vs[j] = v:=by simpa [h2'] using ev
 have q:=h j xs[j] ys[j] u v (by simp [l1]) (by simp [l2]) ru rv
 simpa [eu',ev'] using q
theorem EqD.at (I:Inv X pins σ H s):∀ {n:Nat} {x y:V} {b:Bool},EqD X.K H n x y b->∀ {A:Around} {u v:Value},A.units + n < cLine->RelV x u->RelV y v->SeqAt.EqAt A s u v b:=by
 intro n x y b h
 induction h with
 | flat hx hy=>intro A u v _ ru rv; exact Ab1 ru rv hx hy
 | same a=>intro A u v _ ru rv; cases ru; cases rv; exact SeqAt.EqAt.same _
 | @lst n a b xs ys e ne hx hy hl he ih =>
  intro A u v hu ru rv
  cases ru; cases rv
  obtain ⟨us,r1,p1,_⟩:=I.list hx
  obtain ⟨vs,r2,p2,_⟩:=I.list hy
  have es:us.toArray.size = xs.length:=by rw [List.size_toArray]; exact r1.length.symm
  have es2:us.toArray.size = vs.toArray.size:=by rw [es,List.size_toArray,<- r2.length]; exact hl
  refine SeqAt.EqAt.of_refs ne ?_
  rw [<- es]
  exact SeqAt.RcAt.lists p1.isList p2.isList es2 (by omega) (Nk r1 r2 fun i x y u v hx hy ru rv=>ih i x y hx hy (by rw [Jj]; omega) ru rv)
 | @lstN n a b xs ys ne hx hy hl =>
  intro A u v hu ru rv
  cases ru; cases rv
  obtain ⟨us,r1,p1,_⟩:=I.list hx
  obtain ⟨vs,r2,p2,_⟩:=I.list hy
  refine SeqAt.EqAt.of_refs ne (SeqAt.RcAt.lists_lengths p1.isList p2.isList ?_ (by omega))
  rw [List.size_toArray,List.size_toArray,<- r1.length,<- r2.length]
  simpa using hl
 | @tup n a b xs ys e ne hx hy he ih =>
  intro A u v hu ru rv
  cases ru; cases rv
  obtain ⟨us,r1,p1,_⟩:=I.tuple hx
  obtain ⟨vs,r2,p2,_⟩:=I.tuple hy
  have es:us.toArray.size = xs.length:=by rw [List.size_toArray]; exact r1.length.symm
  have es2:vs.toArray.size = ys.length:=by rw [List.size_toArray]; exact r2.length.symm
  refine SeqAt.EqAt.of_refs ne ?_
  rw [<- es,<- es2]
  exact SeqAt.RcAt.tuples p1 p2 (by omega) (Nk r1 r2 fun i x y u v hx hy ru rv=>ih i x y hx hy (by rw [Jj]; omega) ru rv)
def LEq (K:PySem.W.Frag) (H:Hp) (xs ys:List V) (k:Bool):Prop :=
 (¬ xs.length = ys.length/\k = false)\/(xs.length = ys.length/\∃ e:Nat->Bool,(∀ (i:Nat) (x y:V),xs[i]? = some x->ys[i]? = some y->EqD K H 40 x y (e i))/\k = (List.range xs.length).all e)
def Vn (K:PySem.W.Frag) (neg:Bool):R2:=fun x y H Q=>∃ a b xs ys k,x = .ref a/\y = .ref b/\SqL K H a xs/\SqL K H b ys/\LEq K H xs ys k/\Q (.bl (if neg then !k else k)) H
theorem AcN (hu:X.A.units + 64 < cLine):OpR X (compareOp .Eq) (Vn X.K false):=by
 intro pins s σ H x y v u Q I rx ry h
 obtain ⟨a,b,xs,ys,k,rfl,rfl,hx,hy,hk,q⟩:=h
 cases rx; cases ry
 obtain ⟨us,r1,p1,_⟩:=I.list hx
 obtain ⟨vs,r2,p2,_⟩:=I.list hy
 have fin:EP X pins σ Q (.bool k) s:=⟨.bl k,H,I,rfl,q⟩
 rcases hk with ⟨hl,rfl⟩ | ⟨hl,e,he,rfl⟩
 ·refine SeqAt.eq_list_lengthsAt p1.isList p2.isList ?_ (by omega) fin
  rw [List.size_toArray,List.size_toArray,<- r1.length,<- r2.length]
  simpa using hl
 ·have es:us.toArray.size = xs.length:=by rw [List.size_toArray]; exact r1.length.symm
  have es2:us.toArray.size = vs.toArray.size:=by rw [es,List.size_toArray,<- r2.length]; exact hl
  rw [<- es] at fin
  exact SeqAt.eq_listAt p1.isList p2.isList es2 (by omega) (Nk r1 r2 fun i x y u v hx hy ru rv=>(he i x y hx hy).at I (by rw [Jj]; omega) ru rv) fin
theorem AiX (hu:X.A.units + 64 < cLine):OpR X (compareOp .NotEq) (Vn X.K true):=by
 intro pins s σ H x y v u Q I rx ry h
 obtain ⟨a,b,xs,ys,k,rfl,rfl,hx,hy,hk,q⟩:=h
 cases rx; cases ry
 obtain ⟨us,r1,p1,_⟩:=I.list hx
 obtain ⟨vs,r2,p2,_⟩:=I.list hy
 have fin:EP X pins σ Q (.bool (!k)) s:=⟨.bl (!k),H,I,rfl,q⟩
 rcases hk with ⟨hl,rfl⟩ | ⟨hl,e,he,rfl⟩
 ·refine SeqAt.RcNeAt.lists_lengths p1.isList p2.isList ?_ (by omega) _ _ _ _ fin
  rw [List.size_toArray,List.size_toArray,<- r1.length,<- r2.length]
  simpa using hl
 ·have es:us.toArray.size = xs.length:=by rw [List.size_toArray]; exact r1.length.symm
  have es2:us.toArray.size = vs.toArray.size:=by rw [es,List.size_toArray,<- r2.length]; exact hl
  rw [<- es] at fin
  exact SeqAt.RcNeAt.lists p1.isList p2.isList es2 (by omega) (Nk r1 r2 fun i x y u v hx hy ru rv=>(he i x y hx hy).at I (by rw [Jj]; omega) ru rv) _ _ _ _ fin
def AdX (K:PySem.W.Frag) (neg:Bool):R2:=fun x y H Q=>∃ a b xs ys e,x = .ref a/\y = .ref b/\SqT K H a xs/\SqT K H b ys/\(∀ (i:Nat) (x y:V),xs[i]? = some x->ys[i]? = some y->EqD K H 40 x y (e i)) /\
 Q (.bl (if neg then !((List.range (min xs.length ys.length)).all e && xs.length == ys.length) else ((List.range (min xs.length ys.length)).all e && xs.length == ys.length))) H
theorem Aib (hu:X.A.units + 64 < cLine):OpR X (compareOp .Eq) (AdX X.K false):=by
 intro pins s σ H x y v u Q I rx ry h
 obtain ⟨a,b,xs,ys,e,rfl,rfl,hx,hy,he,q⟩:=h
 cases rx; cases ry
 obtain ⟨us,r1,p1,_⟩:=I.tuple hx
 obtain ⟨vs,r2,p2,_⟩:=I.tuple hy
 have es:us.toArray.size = xs.length:=by rw [List.size_toArray]; exact r1.length.symm
 have es2:vs.toArray.size = ys.length:=by rw [List.size_toArray]; exact r2.length.symm
 have fin:EP X pins σ Q (.bool ((List.range (min xs.length ys.length)).all e && xs.length == ys.length)) s:=⟨.bl _,H,I,rfl,q⟩
 rw [<- es,<- es2] at fin
 exact SeqAt.eq_tupleAt p1 p2 (by omega) (Nk r1 r2 fun i x y u v hx hy ru rv=>(he i x y hx hy).at I (by rw [Jj]; omega) ru rv) fin
end
section
variable {X:Cx} {pins:List (Addr × Obj)} {σ:St} {H:Hp} {s:Shared} {a:Addr}
def Frb:HO->Prop
 | .dK _=>True
 | .dT _=>True
 | _=>False
theorem Frb.notup {u:HO} (h:Frb u) (xs:List V):u ≠ .tup xs:=by intro e; subst e; exact h
theorem Frb.nofrz {u:HO} (h:Frb u) (o:Obj) (v:HO):u ≠ .frz o v:=by intro e; subst e; exact h
theorem Frb.noown {u:HO} (h:Frb u) (x:Addr):u ≠ .own x:=by intro e; subst e; exact h
theorem Frb.notbl {u:HO} (h:Frb u) (ps:Array Value):u ≠ .tbl ps:=by intro e; subst e; exact h
def AbB (X:Cx) (a:Addr):Prop:=(∀ xs,X.H₀ a ≠ some (.tup xs))/\(∀ o v,X.H₀ a ≠ some (.frz o v))/\∀ ps,X.H₀ a ≠ some (.tbl ps)
theorem Inv.free0 (I:Inv X pins σ H s) {u:HO} (hu:Frb u) (e:H a = some u):AbB X a:=by
 refine ⟨fun xs q=>?_,fun o v q=>?_,fun ps q=>?_⟩
 ·have:=I.base.tups a xs q; rw [e] at this; exact hu.notup xs (Option.some.inj this)
 ·have:=I.base.frzs a o v q; rw [e] at this; exact hu.nofrz o v (Option.some.inj this)
 ·obtain ⟨m,this⟩:=I.base.tbls a ps q; rw [e] at this; exact hu.notbl _ (Option.some.inj this)
theorem Inv.swap {u v:HO} (I:Inv X pins σ H s) (hu:∀ x,u ≠ .own x) (hu2:∀ xs,u ≠ .tup xs) (e:H a = some u) (f:AbB X a) (ok:ObjOk X.prog X.w (upd H a v) s.heap a v):Inv X pins σ (upd H a v) s:=by
 have nown:∀ b x,H b = some (.own x)->b ≠ a:=fun b x q z=>by subst z; rw [e] at q; exact hu x (Option.some.inj q)
 have ntup:∀ b xs,H b = some (.tup xs)->b ≠ a:=fun b xs q z=>by subst z; rw [e] at q; exact hu2 xs (Option.some.inj q)
 have nnone:∀ b,H b = none->b ≠ a:=fun b q z=>by subst z; rw [e] at q; cases q
 refine ⟨I.ok,I.os,I.bare,⟨I.base.keep,I.base.slot,fun b o h1 h2 h3=>?_,I.base.there,fun b xs q=>?_,fun b o w q=>?_,fun b ps q=>?_⟩,I.loc,I.cell,?_,fun x c q=>?_,fun p hp=>?_,fun b o q=>?_,I.len⟩
 ·have q:=I.base.free b o h1 h2 h3
  rw [Bg (nnone b q)]; exact q
 ·have h:b ≠ a:=fun z=>by subst z; exact f.1 xs q
  rw [Bg h]; exact I.base.tups b xs q
 ·have h:b ≠ a:=fun z=>by subst z; exact f.2.1 o w q
  rw [Bg h]; exact I.base.frzs b o w q
 ·have h:b ≠ a:=fun z=>by subst z; exact f.2.2 ps q
  rw [Bg h]; exact I.base.tbls b ps q
 ·rw [Bg (nnone _ I.free)]; exact I.free
 ·rw [Bg (nnone _ (I.freeC x c q))]; exact I.freeC x c q
 ·obtain ⟨h1,h2,h3⟩:=I.pin p hp
  exact ⟨h1,by rw [Bg (nnone _ h2)]; exact h2,h3⟩
 ·by_cases hb:b = a
  ·subst hb; rw [Bk] at q; cases q; exact ok
  ·rw [Bg hb] at q
   exact (I.hok b o q).stay (fun _ _ _ z=>z) (fun c z=>by rw [Bg (nown c b z)]; exact z) fun c xs z=>by rw [Bg (ntup c xs z)]; exact z
theorem ObjOk.heap {P:Program} {w:World} {h:Heap} {H':Hp} {u:HO} (x:ObjOk P w H h a u) (hd:∀ b xs,H b = some (.tup xs)->H' b = some (.tup xs)) (ho:∀ b,H b = some (.own a)->H' b = some (.own a)):ObjOk P w H' h a u :=
 x.stay (fun _ _ _ z=>z) ho hd
theorem Inv.freeze {u:HO} (I:Inv X pins σ H s) (hu:Frb u) (e:H a = some u):∃ o,Inv X pins σ (upd H a (.frz o u)) s:=by
 have ok:=I.hok a u e
 obtain ⟨o,ho⟩:∃ o,s.heap.get? a = some o:=by
  cases u with
  | dK kvs=>obtain ⟨_,_,_,_,o,_,_,h,_⟩:=ok; exact ⟨o,h⟩
  | dT kvs=>obtain ⟨_,_,_,_,o,_,_,h,_⟩:=ok; exact ⟨o,h⟩
  | _=>exact hu.elim
 refine ⟨o,I.swap (fun x=>hu.noown x) (fun xs=>hu.notup xs) e (I.free0 hu e) ⟨ho,ok.heap (fun b xs q=>?_) fun b q=>?_⟩⟩
 ·rw [Bg (fun z=>by subst z; rw [e] at q; exact hu.notup xs (Option.some.inj q))]; exact q
 ·rw [Bg (fun z=>by subst z; rw [e] at q; exact hu.noown _ (Option.some.inj q))]; exact q
theorem Inv.thaw {u:HO} {o:Obj} (I:Inv X pins σ H s) (f:AbB X a) (e:H a = some (.frz o u)):Inv X pins σ (upd H a u) s:=by
 obtain ⟨ho,ok⟩:=(show ObjOk X.prog X.w H s.heap a (.frz o u) from I.hok a _ e)
 refine I.swap (by intro x z; cases z) (by intro xs z; cases z) e f (ok.heap (fun b xs q=>?_) fun b q=>?_)
 ·rw [Bg (fun z=>by subst z; rw [e] at q; cases q)]; exact q
 ·rw [Bg (fun z=>by subst z; rw [e] at q; cases q)]; exact q
def Ou (a:Addr) (u:HO) (D:Ends):Ends where
 nx:=fun σ H=>∃ o,H a = some (.frz o u)/\D.nx σ (upd H a u)
 rt:=fun v H=>∃ o,H a = some (.frz o u)/\D.rt v (upd H a u)
 bk:=fun σ H=>∃ o,H a = some (.frz o u)/\D.bk σ (upd H a u)
 ct:=fun σ H=>∃ o,H a = some (.frz o u)/\D.ct σ (upd H a u)
def Ad6 (t:TS):TS:=fun D σ H=>∃ a u,Frb u/\H a = some u/\∀ o,t (Ou a u D) σ (upd H a (.frz o u))
theorem AdJ {st:Stmt} {t:TS} (h:PS X st t):PS X st (Ad6 t):=by
 intro pins s σ H D I q
 obtain ⟨a,u,hu,e,q⟩:=q
 have f:=I.free0 hu e
 obtain ⟨o,I1⟩:=I.freeze hu e
 refine thn (h pins s σ _ _ I1 (q o)) fun fl s' hs=>?_
 cases fl with
 | next=>obtain ⟨σ',H',I',o',e',q'⟩:=hs; exact ⟨σ',_,I'.thaw f e',q'⟩
 | brk=>obtain ⟨σ',H',I',o',e',q'⟩:=hs; exact ⟨σ',_,I'.thaw f e',q'⟩
 | cont=>obtain ⟨σ',H',I',o',e',q'⟩:=hs; exact ⟨σ',_,I'.thaw f e',q'⟩
 | ret v=>obtain ⟨x,σ',H',I',r,o',e',q'⟩:=hs; exact ⟨x,σ',_,I'.thaw f e',r,q'⟩
end
def Itd (a:Addr) (o:Obj) (kvs:List (Key × V)):It :=
 ⟨fun i H=>H a = some (.frz o (.dK kvs))/\i < kvs.length,fun i H x H'=>H' = H/\∃ kv,kvs[i]? = some kv/\x = kV kv.1,fun i H=>H a = some (.frz o (.dK kvs))/\kvs.length <= i⟩
theorem Vu {P:Program} {w:World} {k:Key} {u:Value} (h:(Cs P w).is k u = true):RelV (kV k) u:=by
 rcases Dt h with ⟨i,t,rfl,rfl⟩ | ⟨x,t,rfl,rfl⟩
 ·exact ⟨t,rfl⟩
 ·exact ⟨t,rfl⟩
theorem Ro {P:Program} {w:World} {H:Hp} {h:Heap} {a:Addr} {o:Obj} {kvs:List (Key × V)} {es:Array DictEntry} {ep:Nat} (ok:HOk P w H h) (e:H a = some (.frz o (.dK kvs))) (hd:o.data = .dict es ep) :
  (a == sysModules) = false/\∃ vs,KV kvs vs/\h.DictAt (Cs P w) a vs ep:=by
 obtain ⟨ho,_,hm,vs,r,o',es',ep',h1,h2,h3,h4⟩:=(show ObjOk P w H h a (.frz o (.dK kvs)) from ok a _ e)
 rw [ho] at h1
 cases h1
 rw [hd] at h3
 cases h3
 exact ⟨hm,vs,r,o,es,ho,h2,hd,h4⟩
theorem AcQ {P:Program} {w:World} {K:PySem.W.Frag} {tg:Expr} (a it:Addr) (o:Obj) (kvs:List (Key × V)) (es:Array DictEntry) (ep:Nat) (hd:o.data = .dict es ep) :
  Vm P w K tg (Itd a o kvs) [it] it (fun i h=>h.IsKeyIter it a i kvs.length ep) where
 mem:=by simp
 obj:=fun i h st b hb=>by
  have e:b = it:=by simpa using hb
  subst e
  obtain ⟨o,e,c,d⟩:=st
  exact ⟨o,e,fun v z=>by rw [d] at z; cases z⟩
 keep:=fun i h h' st k=>by
  obtain ⟨o,e,r⟩:=st
  exact ⟨o,k it (by simp) o e,r⟩
 item:=by
  intro X hP hw hK hc i pins s σ H E I hf st hg
  subst hP hw hK
  obtain ⟨hz,hi⟩:=hg
  obtain ⟨hm,vs,r,da⟩:=Ro I.hok hz hd
  have hl:kvs.length = vs.length:=Paired.length r
  obtain ⟨f0,f1,f2,f3,f4,f5⟩:=hf it (by simp)
  have hiv:i < vs.length:=by omega
  have ek:(kvs[i]).1 = (vs[i]).1:=by
   have q:=KV.keys r
   have q1:=congrArg (fun l=>l[i]?) q
   simp only [List.getElem?_map,List.getElem?_eq_getElem hi,List.getElem?_eq_getElem hiv,Option.map_some,Option.some.injEq] at q1
   exact q1
  refine wpAny_pyNext_dict_item (k:=(vs[i]).1) (v:=(vs[i]).2) (kvs:=vs) (by rw [<- hl]; exact st) da (by rw [List.getElem?_eq_getElem hiv]) fun key h' hkey st' sb=>?_
  have I1:Inv X pins σ H { s with heap:=h' }:=I.turned (t':=s.toks) (fun b o hb e=>(sb.2 b hb).trans e) f0 f1 f3 f4 f5
  rw [<- hl] at st'
  obtain ⟨o',e',c',d'⟩:=id st'
  exact ⟨key,rfl,Abl (s:={ s with heap:=h' }) e' c' d' (by decide) ⟨kV (kvs[i]).1,H,I1,by rw [ek]; exact Vu hkey,⟨rfl,kvs[i],List.getElem?_eq_getElem hi,rfl⟩,st',fun b hb=>(hf b hb).1⟩⟩
 done:=by
  intro X hP hw hK hc i pins s σ H E I hf st hg
  subst hP hw hK
  obtain ⟨hz,hi⟩:=hg
  obtain ⟨hm,vs,r,da⟩:=Ro I.hok hz hd
  have hl:kvs.length = vs.length:=Paired.length r
  obtain ⟨f0,f1,f2,f3,f4,f5⟩:=hf it (by simp)
  exact wpAny_pyNext_dict_end (kvs:=vs) (I.ok.hd hc) (by rw [<- hl]; exact st) da (List.getElem?_eq_none (by omega)) fun h' eb=>⟨rfl,I.turned (t':=s.toks) (fun b o hb e=>eb b o hb e) f0 f1 f3 f4 f5⟩
 self:=fun _ _ _ _ _ st h=>wpAny_pyIter_keyiter st h
section
variable {X:Cx} {tg:Expr}
def iDk (tl:TE):TI:=fun σ H R=>tl σ H fun x H1=>∃ a o kvs,x = .ref a/\H1 a = some (.frz o (.dK kvs))/\R (Itd a o kvs) H1
theorem AeT {l:Expr} {tl:TE} (hl:PE X l tl):PI X tg l (iDk tl):=by
 intro pins s σ H R I h
 refine thn (hl pins s σ H _ I h) fun v s1 ⟨x,H1,I1,r1,q1⟩=>?_
 obtain ⟨a,o,kvs,e,hz,q⟩:=q1
 subst e
 cases r1
 obtain ⟨ho,_,hm,vs,r,o',es,ep,h1,h2,h3,h4⟩:=(show ObjOk X.prog X.w H1 s1.heap a (.frz o (.dK kvs)) from I1.hok a _ hz)
 rw [ho] at h1
 cases h1
 have hl:kvs.length = vs.length:=Paired.length r
 refine wpAny_pyIter_dict (knd:=Cs X.prog X.w) (kvs:=vs) (ep:=ep) hm ⟨o,es,ho,h2,h3,h4⟩ ?_
 refine ⟨s1.heap.objs.size,[s1.heap.objs.size],_,_,H1,rfl,I1.kept (t':=s1.toks) fun b o e=>Heap.get?_push_of_some _ e,AcQ a _ o kvs es ep h3,⟨_,Heap.get?_push_size _ rfl,rfl,by rw [hl]; rfl⟩,fun b hb=>?_,q⟩
 have e:b = s1.heap.objs.size:=by simpa using hb
 subst e
 exact I1.fpOk (Nat.le_refl _) (I1.hok.fresh (Nat.le_refl _))
theorem Acm {a:Addr} {o:Obj} {kvs:List (Key × V)} {g:TG} {tb:TS} {D:Ends} {σ:St} {H:Hp} (Pv:Nat->St->Hp->Prop) (h0:Pv 0 σ H) (hl:∀ i σ H,i <= kvs.length->Pv i σ H->H a = some (.frz o (.dK kvs)))
  (hs:∀ i kv σ H,kvs[i]? = some kv->Pv i σ H->g (kV kv.1) σ H fun σ2 H2=>tb { D with nx:=Pv (i + 1),ct:=Pv (i + 1),bk:=D.nx } σ2 H2) (hd:∀ σ H,Pv kvs.length σ H->D.nx σ H) :
  ∃ W:Nat->Nat->St->Hp->Prop,(∃ m,W 0 m σ H)/\∀ i m σ H,W i m σ H ->
   ((Itd a o kvs).stop i H/\D.nx σ H)\/((Itd a o kvs).go i H/\∃ N:St->Hp->Prop,(∀ σ' H',N σ' H'->∃ m',m' < m/\W (i + 1) m' σ' H')/\∀ x H',(Itd a o kvs).yld i H x H'->g x σ H' fun σ2 H2=>tb { D with nx:=N,ct:=N,bk:=D.nx } σ2 H2):=by
 refine ⟨fun i m σ H=>m = kvs.length - i/\i <= kvs.length/\Pv i σ H,⟨kvs.length,by simp,Nat.zero_le _,h0⟩,?_⟩
 rintro i m σ H ⟨rfl,hi,p⟩
 have q:=hl i σ H hi p
 by_cases hlt:i < kvs.length
 ·refine .inr ⟨⟨q,hlt⟩,Pv (i + 1),fun σ' H' p'=>⟨kvs.length - (i + 1),by omega,rfl,hlt,p'⟩,fun x H' y=>?_⟩
  obtain ⟨e,kv,y1,y2⟩:=y
  subst e y2
  exact hs i kv σ _ y1 p
 ·have e:i = kvs.length:=by omega
  subst e
  exact .inl ⟨⟨q,Nat.le_refl _⟩,hd σ H p⟩
end
def Iti (a:Addr) (o:Obj) (kvs:List (Key × V)):It :=
 ⟨fun i H=>H a = some (.frz o (.dK kvs))/\i < kvs.length,fun i H x H'=>∃ t kv,H t = none/\kvs[i]? = some kv/\x = .ref t/\H' = upd H t (.tup [kV kv.1,kv.2]),fun i H=>H a = some (.frz o (.dK kvs))/\kvs.length <= i⟩
theorem AdL {κ:Type}:∀ {kvs:List (κ × V)} {vs:List (κ × Value)} {i:Nat} {kv:κ × V},KV kvs vs->kvs[i]? = some kv->∃ v,vs[i]? = some (kv.1,v)/\RelV kv.2 v
 | _,_,_,_,.nil,e=>by simp at e
 | _,(k',v') :: _,0,_,.cons r _,e=>by
  simp at e; subst e
  obtain ⟨h1,h2⟩:=r
  exact ⟨v',by simp [h1],h2⟩
 | _,_,i + 1,kv,.cons _ t,e=>by
  obtain ⟨v,h1,h2⟩:=AdL (i:=i) (kv:=kv) t (by simpa using e)
  exact ⟨v,by simpa using h1,h2⟩
theorem Abb {P:Program} {w:World} {K:PySem.W.Frag} {elts:List Expr} {x1:Nat} {tp:Pos} (a it:Addr) (o:Obj) (kvs:List (Key × V)) (es:Array DictEntry) (ep:Nat) (hd:o.data = .dict es ep) :
  Vm P w K (.Tuple elts x1 tp) (Iti a o kvs) [it] it (fun i h=>∃ ok ov,IsItemIter h it a i kvs.length ep ok ov) where
 mem:=by simp
 obj:=fun i h st b hb=>by
  have e:b = it:=by simpa using hb
  subst e
  obtain ⟨ok,ov,e⟩:=st
  exact ⟨_,e,fun v z=>nomatch z⟩
 keep:=fun i h h' st k=>by
  obtain ⟨ok,ov,e⟩:=st
  exact ⟨ok,ov,k it (by simp) _ e⟩
 item:=by
  intro X hP hw hK hc i pins s σ H E I hf st hg
  subst hP hw hK
  obtain ⟨hz,hi⟩:=hg
  obtain ⟨ok,ov,st⟩:=st
  obtain ⟨hm,vs,r,da⟩:=Ro I.hok hz hd
  have hl:kvs.length = vs.length:=Paired.length r
  obtain ⟨f0,f1,f2,f3,f4,f5⟩:=hf it (by simp)
  obtain ⟨v,hv,rv⟩:=AdL (i:=i) (kv:=kvs[i]) r (List.getElem?_eq_getElem hi)
  have hit:it < s.heap.objs.size:=Heap.lt_size st
  have hne:s.heap.objs.size ≠ it:=Nat.ne_of_gt hit
  have hfr:H s.heap.objs.size = none:=I.hok.fresh (Nat.le_refl _)
  rw [hl] at st
  refine wpAny_pyNext_items_item st da hv fun key h' hkey ho hT hsz hk=>⟨_,rfl,?_⟩
  refine wpAny_letOwnedTupleGo_items (s:={ s with heap:=h' }) ho fun h2 he hs=>?_
  have hs2:∀ b,b ≠ it->h2.get? b = h'.get? b:=hs.2
  have kp:∀ b o,b ≠ it->s.heap.get? b = some o->h2.get? b = some o:=fun b o hb e=>(hs2 b hb).trans (hk b o hb e)
  have hT2:h2.get? s.heap.objs.size = some { cls:=.type "tuple",data:=.seq #[key,v] }:=(hs2 _ hne).trans hT
  have nt:∀ b u,H b = some u->b ≠ s.heap.objs.size:=fun b u e=>Bn e hfr
  rw [<- hl] at he
  refine ⟨.ref s.heap.objs.size,upd H s.heap.objs.size (.tup [kV (kvs[i]).1,(kvs[i]).2]),?_,rfl,⟨_,_,hfr,List.getElem?_eq_getElem hi,rfl,rfl⟩,⟨_,_,he⟩,fun b hb=>?_⟩
  ·refine Inv.step (s:=s) (h':=h2) I (g':=s.gens) (d':=s.drawn) (t':=s.toks) (ch:=[it]) (fun b hb=>?_) (fun b o _ _ hc e _=>kp b o (fun z=>hc (by simp [z])) e) (fun b o _ _ hc e _=>⟨o.slots,kp b o (fun z=>hc (by simp [z])) e⟩)
    (fun b o hc e n=>by rw [Bg (Nat.ne_of_lt (Heap.lt_size e))]; exact n) (fun b o hc e=>⟨o,kp b o (fun z=>hc (by simp [z])) e⟩) (fun b xs e=>by rw [Bg (nt b _ e)]; exact e) (fun b o u e=>by rw [Bg (nt b _ e)]; exact e)
    (fun b ps e=>⟨#[],by rw [Bg (nt b _ e),e]; simp⟩) (fun m hm=>?_) (fun b u e=>?_) I.bare
   ·have e:b = it:=by simpa using hb
    subst e
    exact ⟨f3,f1,f4,f5⟩
   ·obtain ⟨o,es,ep,ho,r⟩:=hm
    exact ⟨o,es,ep,kp _ o (Ne.symm f1) ho,r⟩
   ·by_cases hb:b = s.heap.objs.size
    ·subst hb
     rw [Bk] at e
     cases e
     exact ⟨by show 2 <= sizeLine; decide,[key,v],.cons (Vu hkey) (.cons rv .nil),_,hT2,rfl,_,rfl⟩
    ·rw [Bg hb] at e
     have nit:∀ c w,H c = some w->c ≠ it:=fun c w e z=>by rw [z,f0] at e; cases e
     refine (I.hok b u e).stay (fun c v hc q=>kp c v ?_ q) (fun c q=>by rw [Bg (nt c _ q)]; exact q) fun c xs q=>by rw [Bg (nt c _ q)]; exact q
     rcases hc with z | z
     ·rw [z]; exact nit b u e
     ·exact nit c _ z
  ·have e:b = it:=by simpa using hb
   rw [e,Bg (Ne.symm hne)]
   exact f0
 done:=by
  intro X hP hw hK hc i pins s σ H E I hf st hg
  subst hP hw hK
  obtain ⟨hz,hi⟩:=hg
  obtain ⟨ok,ov,st⟩:=st
  obtain ⟨hm,vs,r,da⟩:=Ro I.hok hz hd
  have hl:kvs.length = vs.length:=Paired.length r
  obtain ⟨f0,f1,f2,f3,f4,f5⟩:=hf it (by simp)
  rw [hl] at st
  exact wpAny_pyNext_items_end (I.ok.hd hc) st da (List.getElem?_eq_none (by omega)) fun h' eb=>⟨rfl,I.turned (t':=s.toks) (fun b o hb e=>eb b o hb e) f0 f1 f3 f4 f5⟩
 self:=fun A i s Q E st h=>by
  obtain ⟨ok,ov,e⟩:=st
  exact PySem.W.kcp_self e h
section
variable {X:Cx} {elts:List Expr} {x1:Nat} {tp apos cpos:Pos}
def iDi (tl:TE):TI:=fun σ H R=>tl σ H fun x H1=>∃ a o kvs,x = .ref a/\H1 a = some (.frz o (.dK kvs))/\R (Iti a o kvs) H1
theorem AcO {l:Expr} {tl:TE} (hl:PE X l tl) (hbase:attributeBase l "items" X.env (eval l X.env) = eval l X.env:=by rfl) (hline:(apos.endLine == cpos.line) = true:=by rfl) :
  PI X (.Tuple elts x1 tp) (.Call (.Attribute l "items" apos) [] [] cpos) (iDi tl):=by
 intro pins s σ H R I h
 refine wpAny_Call_method0_late hbase hline (thn (hl pins s σ H _ I h) fun v s1 ⟨x,H1,I1,r1,q1⟩=>?_)
 obtain ⟨a,o,kvs,e,hz,q⟩:=q1
 subst e
 cases r1
 obtain ⟨ho,_,hm,vs,r,o',es,ep,h1,h2,h3,h4⟩:=(show ObjOk X.prog X.w H1 s1.heap a (.frz o (.dK kvs)) from I1.hok a _ hz)
 rw [ho] at h1
 cases h1
 have hlen:kvs.length = vs.length:=Paired.length r
 have da:s1.heap.DictAt (Cs X.prog X.w) a vs ep:=⟨o,es,ho,h2,h3,h4⟩
 refine ⟨"dict","dict.items",PySem.F.plainAttrs_dict,PySem.F.slot_dict_items,PySem.F.type_dict_items,⟨o,ho,h2.1⟩,fun b eb=>?_,Calls.callWith_builtin rfl (PySem.evalArgs_none ?_)⟩
 ·cases eb
  exact ⟨o,ho,h2.2.1⟩
 refine call_meetsIn PySem.F.slot_dict_items da.dictOf.typeIs PySem.F.entry_dict_items (PySem.F.args_dict_items_1 _) (meets_dict_items (Cs X.prog X.w) a hm) ⟨⟨vs,da.dictOf⟩,?_⟩
 refine wpAny_pyIter_items (s:={ s1 with heap:=s1.heap.push { cls:=.type "dict_items",data:=.fields #[.ref a] } }) (knd:=Cs X.prog X.w) (kvs:=vs) (ep:=ep) ⟨_,Heap.get?_push_size _ rfl,rfl,rfl⟩ (da.push _) ?_
 have I2:Inv X pins σ H1 { s1 with heap:=s1.heap.push { cls:=.type "dict_items",data:=.fields #[.ref a] } }:=I1.kept (t':=s1.toks) fun b o e=>Heap.get?_push_of_some _ e
 refine ⟨_,[_],_,_,H1,rfl,I2.kept (t':=s1.toks) fun b o e=>Heap.get?_push_of_some _ e,Abb a _ o kvs es ep h3,⟨.none,.none,by rw [hlen]; exact Heap.get?_push_size _ rfl⟩,fun b hb=>?_,q⟩
 have e:=List.mem_singleton.mp hb
 subst e
 exact I2.fpOk (Nat.le_refl _) (I2.hok.fresh (Nat.le_refl _))
theorem AbF {a:Addr} {o:Obj} {kvs:List (Key × V)} {g:TG} {tb:TS} {D:Ends} {σ:St} {H:Hp} (Pv:Nat->St->Hp->Prop) (h0:Pv 0 σ H) (hl:∀ i σ H,i <= kvs.length->Pv i σ H->H a = some (.frz o (.dK kvs)))
  (hs:∀ i kv t σ H,kvs[i]? = some kv->H t = none->Pv i σ H->g (.ref t) σ (upd H t (.tup [kV kv.1,kv.2])) fun σ2 H2=>tb { D with nx:=Pv (i + 1),ct:=Pv (i + 1),bk:=D.nx } σ2 H2) (hd:∀ σ H,Pv kvs.length σ H->D.nx σ H) :
  ∃ W:Nat->Nat->St->Hp->Prop,(∃ m,W 0 m σ H)/\∀ i m σ H,W i m σ H ->
   ((Iti a o kvs).stop i H/\D.nx σ H)\/((Iti a o kvs).go i H/\∃ N:St->Hp->Prop,(∀ σ' H',N σ' H'->∃ m',m' < m/\W (i + 1) m' σ' H')/\∀ x H',(Iti a o kvs).yld i H x H'->g x σ H' fun σ2 H2=>tb { D with nx:=N,ct:=N,bk:=D.nx } σ2 H2):=by
 refine ⟨fun i m σ H=>m = kvs.length - i/\i <= kvs.length/\Pv i σ H,⟨kvs.length,by simp,Nat.zero_le _,h0⟩,?_⟩
 rintro i m σ H ⟨rfl,hi,p⟩
 have q:=hl i σ H hi p
 by_cases hlt:i < kvs.length
 ·refine .inr ⟨⟨q,hlt⟩,Pv (i + 1),fun σ' H' p'=>⟨kvs.length - (i + 1),by omega,rfl,hlt,p'⟩,fun x H' y=>?_⟩
  obtain ⟨t,kv,ht,y1,y2,y3⟩:=y
  subst y2 y3
  exact hs i kv t σ _ y1 ht p
 ·have e:i = kvs.length:=by omega
  subst e
  exact .inl ⟨⟨q,Nat.le_refl _⟩,hd σ H p⟩
end
end L2
set_option Elab.async false
set_option linter.all false
set_option maxRecDepth 100000
set_option maxHeartbeats 4000000
namespace L2
open PySem PySem.Spec PyProof.Rows
section
variable {σ:St} {H:Hp} {Q:VK} {B:Bool->Hp->Prop} {v x y:V} {ta tb tc:TE} {tA tB':TT} {D:Ends} {t u:TS} {K:PySem.W.Frag}
theorem AjH {i:Nat} (h:σ[i]? = some (some v)) (q:Q v H):Gy i σ H Q:=⟨v,h,q⟩
theorem i_c (q:Q v H):tC v σ H Q:=q
theorem AkW {r:R2} (q:ta σ H fun x H1=>tb σ H1 fun y H2=>r x y H2 Q):tOp r ta tb σ H Q:=q
theorem Ajl {g:Int->Int->V} {i j:Int} (q:Q (g i j) H):rI0 g (.int i) (.int j) H Q:=⟨i,j,rfl,rfl,q⟩
theorem Cy {C:Int->Int->Prop} {g:Int->Int->V} {i j:Int} (c:C i j) (q:Q (g i j) H):rI C g (.int i) (.int j) H Q:=⟨i,j,rfl,rfl,c,q⟩
theorem Af5 {i j:Int}:decide (V.int i = V.int j) = decide (i = j):=by
 by_cases h:i = j
 ·subst h; simp
 ·rw [decide_eq_false h,decide_eq_false fun e=>h (V.int.inj e)]
theorem Agb {i j:Str}:decide (V.str i = V.str j) = decide (i = j):=by
 by_cases h:i = j
 ·subst h; simp
 ·rw [decide_eq_false h,decide_eq_false fun e=>h (V.str.inj e)]
theorem AfM {i j:Int} (q:Q (.bl (decide (i = j))) H):rEq (.int i) (.int j) H Q:=⟨rfl,by rw [Af5]; exact q⟩
theorem AfT {i j:Str} (q:Q (.bl (decide (i = j))) H):rEq (.str i) (.str j) H Q:=⟨rfl,by rw [Agb]; exact q⟩
theorem AfG {i j:Int} (q:Q (.bl (!decide (i = j))) H):rNe (.int i) (.int j) H Q:=⟨rfl,by rw [Af5]; exact q⟩
theorem Afy {i j:Str} (q:Q (.bl (!decide (i = j))) H):rNe (.str i) (.str j) H Q:=⟨rfl,by rw [Agb]; exact q⟩
theorem AkN {t:TE} (q:t σ H fun x H1=>∃ c,x = .bl c/\B c H1):tB t σ H B:=q
theorem Ahw {t:TE} (q:t σ H fun x H1=>∃ c,x = .bl c/\B c H1):AbR t σ H B:=q
theorem Ajo {b:Bool} {P:Bool->Prop} (q:P b):∃ c,V.bl b = V.bl c/\P c:=⟨b,rfl,q⟩
theorem Ajm (q:tA σ H fun c H1=>B (!c) H1):Aeg tA σ H B:=q
theorem AhB (q:ta σ H fun x H1=>∃ c,x = .bl c/\if c = true then tb σ H1 Q else Q (.bl false) H1):AbJ ta tb σ H Q:=q
theorem AiI (q:ta σ H fun x H1=>∃ c,x = .bl c/\Q (.bl (!c)) H1):AbG ta σ H Q:=q
theorem Abv (q:t { D with nx:=u D } σ H):Ad7 t u D σ H:=q
theorem AkD (q:D.nx σ H):Aa8 D σ H:=q
theorem AhA (q:ta σ H fun _ H1=>D.nx σ H1):AbS ta D σ H:=q
theorem AjC (q:ta σ H D.rt):Ym ta D σ H:=q
theorem AkF (q:tA σ H fun b H1=>if b = true then t D σ H1 else u D σ H1):AeQ tA t u D σ H:=q
theorem Ajr {g:TG} (q:ta σ H fun x H1=>g x σ H1 D.nx):Sa ta g D σ H:=q
theorem AgT {i:Nat} {R:St->Hp->Prop} (q:R (σ.set i (some v)) H):Lo i v σ H R:=q
theorem Ahh {n:Nat} {a:Addr} {xs:List V} {g:TGs} {R:St->Hp->Prop} (h:SqT K H a xs) (hl:xs.length = n) (q:g xs σ H R):Zj K n g (.ref a) σ H R:=⟨a,xs,rfl,h,hl,q⟩
theorem AgC {g:TG} {gs:TGs} {vs:List V} {R:St->Hp->Prop} (q:g v σ H fun σ' H'=>gs vs σ' H' R):AbX g gs (v :: vs) σ H R:=⟨v,vs,rfl,q⟩
theorem Aip {R:St->Hp->Prop} (q:R σ H):AdV [] σ H R:=⟨rfl,q⟩
theorem AiZ {sp:Sp} {dvs:List V} {E:XK} {t:TA} (q:t σ H fun vs H1=>sp (vs ++ dvs) H1 Q E):Ob sp dvs E t σ H Q:=q
theorem AjR {R:List V->Hp->Prop} (q:R [] H):Qj σ H R:=q
theorem AiV {tr:TA} {R:List V->Hp->Prop} (q:ta σ H fun x H1=>tr σ H1 fun xs H2=>R (x :: xs) H2):Jo ta tr σ H R:=q
theorem Ake {t:TA} (q:t σ H fun xs H1=>xs.length <= sizeLine/\∀ p,H1 p = none->Q (.ref p) (upd H1 p (.tup xs))):AhH t σ H Q:=q
theorem Aj4 {f:Str} (q:ta σ H fun x H1=>∃ a C dx fs v,x = .ref a/\H1 a = some (.ins C dx fs)/\Cls K C/\NoAttr K C f/\fs.lookup f = some v/\Q v H1):Aiw K ta f σ H Q:=q
theorem AkV {r:List V->Hp->VK->Prop} {t:TA} (q:t σ H fun vs H1=>r vs H1 Q):tCB r t σ H Q:=q
theorem AjK (q:ta σ H fun y H1=>tb σ H1 fun x H2=>∃ a o,x = .ref a/\DGet H2 a y o/\Q (.bl o.isSome) H2):Abi ta tb σ H Q:=q
theorem AdS (q:ta σ H fun y H1=>tb σ H1 fun x H2=>∃ a o,x = .ref a/\DGet H2 a y o/\Q (.bl (!o.isSome)) H2):AaD ta tb σ H Q:=q
theorem Aii (q:ta σ H fun x H1=>tb σ H1 fun y H2=>∃ a v,x = .ref a/\DGet H2 a y (some v)/\Q v H2):Xf ta tb σ H Q:=q
theorem Agw (q:ta σ H fun x H1=>∃ a,x = .ref a/\IsD H1 a/\tb σ H1 fun y H2=>∃ o,DGet H2 a y o/\Q (o.getD .non) H2):Adj ta tb σ H Q:=q
theorem Ag6 (q:ta σ H fun x H1=>∃ a,x = .ref a/\IsD H1 a/\tb σ H1 fun y H2=>tc σ H2 fun z H3=>∃ o,DGet H3 a y o/\Q (o.getD z) H3):Yk ta tb tc σ H Q:=q
theorem AiH (q:tc σ H fun v H1=>ta σ H1 fun x H2=>tb σ H2 fun y H3=>∃ a H4,x = .ref a/\DPut H3 a y v H4/\D.nx σ H4):Xn ta tb tc D σ H:=q
theorem Ain {f:Str} (q:tb σ H fun y H1=>ta σ H1 fun x H2=>∃ a C dx fs,x = .ref a/\H2 a = some (.ins C dx fs)/\Cls K C/\NoAttr K C f/\fs.length < 1000/\D.nx σ (upd H2 a (.ins C dx (Br f y fs)))):Aiu K ta tb f D σ H:=q
theorem AkT {T:String} {r:V->List V->Hp->VK->Prop} {t:TA} (q:ta σ H fun x H1=>tyV K T x H1/\t σ H1 fun xs H2=>r x xs H2 Q):tBM K T r ta t σ H Q:=q
theorem Ahl (q:∀ p,H p = none->Q (.ref p) (upd H p (.dK []))):Xw σ H Q:=q
theorem Aht (q:∀ p,H p = none->Q (.ref p) (upd H p (.dT []))):Yx σ H Q:=q
theorem Oq {i:Nat} {a:Addr} {xs:List V} {g:TG} (hv:σ[i]? = some (some (.ref a))) (hS:SqL K H a xs) (Pv:Nat->St->Hp->Prop) (h0:Pv 0 σ H) (hl:∀ i σ H,i <= xs.length->Pv i σ H->SqL K H a xs)
  (hs:∀ i x σ H,xs[i]? = some x->Pv i σ H->g x σ H fun σ2 H2=>t { D with nx:=Pv (i + 1),ct:=Pv (i + 1),bk:=D.nx } σ2 H2) (hd:∀ σ H,Pv xs.length σ H->D.nx σ H):Rr (Ti K (Gy i)) g t D σ H :=
 ⟨_,hv,a,rfl,⟨_,hS⟩,Ud Pv h0 hl hs hd⟩
theorem AjO {ta:TA} {R:It->Hp->Prop} (q:ta σ H fun vs H1=>∃ j:Int,vs = [.int j]/\-(2 ^ 62) <= j/\j < 2 ^ 62/\R (Itr 0 j.toNat) H1):AbI ta σ H R:=q
theorem AdP {R:It->Hp->Prop} (q:ta σ H fun x H1=>∃ a,x = .ref a/\(∃ xs,SqL K H1 a xs)/\R (Itl K a) H1):Ti K ta σ H R:=q
theorem AhF {i:Nat} {a:Addr} {kvs:List (Key × V)} {g:TG} (hv:σ[i]? = some (some (.ref a))) (hS:H a = some (.dK kvs)) (Pv:Nat->St->Hp->Prop) (h0:Pv 0 σ H)
  (hl:∀ i σ H,i <= kvs.length->Pv i σ H->H a = some (.dK kvs))
  (hs:∀ o i kv σ H,kvs[i]? = some kv->Pv i σ H->g (kV kv.1) σ (upd H a (.frz o (.dK kvs))) fun σ2 H2=>t (Ends.mk (fun σ H=>H a = some (.frz o (.dK kvs))/\Pv (i + 1) σ (upd H a (.dK kvs))) (Ou a (.dK kvs) D).rt (Ou a (.dK kvs) D).nx (fun σ H=>H a = some (.frz o (.dK kvs))/\Pv (i + 1) σ (upd H a (.dK kvs)))) σ2 H2)
  (hd:∀ σ H,Pv kvs.length σ H->D.nx σ H):Ad6 (Rr (iDk (Gy i)) g t) D σ H:=by
 refine ⟨a,.dK kvs,trivial,hS,fun o=>⟨_,hv,a,o,kvs,rfl,Bk,Acm (fun i σ H=>H a = some (.frz o (.dK kvs))/\Pv i σ (upd H a (.dK kvs))) ⟨Bk,?_⟩ (fun i σ H _ p=>p.1) (fun i kv σ H e p=>?_) fun σ H p=>⟨o,p.1,hd σ _ p.2⟩⟩⟩
 ·have e:upd (upd H a (.frz o (.dK kvs))) a (.dK kvs) = H:=by
   rw [Fx]; funext b; unfold upd; split
   ·rename_i h; rw [h,hS]
   ·rfl
  rw [e]; exact h0
 ·have e2:upd (upd H a (.dK kvs)) a (.frz o (.dK kvs)) = H:=by
   rw [Fx]; funext b; unfold upd; split
   ·rename_i h; rw [h,p.1]
   ·rfl
  have q:=hs o i kv σ _ e p.2
  rw [e2] at q
  exact q
theorem Ahs {i:Nat} {a:Addr} {kvs:List (Key × V)} {g:TG} (hv:σ[i]? = some (some (.ref a))) (hS:H a = some (.dK kvs)) (Pv:Nat->St->Hp->Prop) (h0:Pv 0 σ H)
  (hs:∀ o i kv p σ H,kvs[i]? = some kv->H p = none->p ≠ a->Pv i σ H->g (.ref p) σ (upd (upd H a (.frz o (.dK kvs))) p (.tup [kV kv.1,kv.2])) fun σ2 H2=>t (Ends.mk (fun σ H=>H a = some (.frz o (.dK kvs))/\Pv (i + 1) σ (upd H a (.dK kvs))) (Ou a (.dK kvs) D).rt (Ou a (.dK kvs) D).nx (fun σ H=>H a = some (.frz o (.dK kvs))/\Pv (i + 1) σ (upd H a (.dK kvs)))) σ2 H2)
  (hd:∀ σ H,Pv kvs.length σ H->D.nx σ H):Ad6 (Rr (iDi (Gy i)) g t) D σ H:=by
 refine ⟨a,.dK kvs,trivial,hS,fun o=>⟨_,hv,a,o,kvs,rfl,Bk,AbF (fun i σ H=>H a = some (.frz o (.dK kvs))/\Pv i σ (upd H a (.dK kvs))) ⟨Bk,?_⟩ (fun i σ H _ p=>p.1) (fun i kv p σ H e hp w=>?_) fun σ H p=>⟨o,p.1,hd σ _ p.2⟩⟩⟩
 ·have e:upd (upd H a (.frz o (.dK kvs))) a (.dK kvs) = H:=by
   rw [Fx]; funext b; unfold upd; split
   ·rename_i h; rw [h,hS]
   ·rfl
  rw [e]; exact h0
 ·have e2:upd (upd H a (.dK kvs)) a (.frz o (.dK kvs)) = H:=by
   rw [Fx]; funext b; unfold upd; split
   ·rename_i h; rw [h,w.1]
   ·rfl
  have ne:p ≠ a:=fun z=>by rw [z,w.1] at hp; cases hp
  have q:=hs o i kv p σ (upd H a (.dK kvs)) e (by rw [Bg ne]; exact hp) ne w.2
  rw [e2] at q
  exact q
theorem Tf {ta:TA} {g:TG} {hi:Int} {n:Nat} (hargs:∀ R:List V->Hp->Prop,R [.int hi] H->ta σ H R) (hb:-(2 ^ 62) <= hi/\hi < 2 ^ 62) (hn:hi.toNat = n) (Pv:Nat->St->Hp->Prop) (h0:Pv 0 σ H)
  (hs:∀ i σ H,i < n->Pv i σ H->g (.int (0 + i)) σ H fun σ2 H2=>t { D with nx:=Pv (i + 1),ct:=Pv (i + 1),bk:=D.nx } σ2 H2) (hd:∀ σ H,Pv n σ H->D.nx σ H):Rr (AbI ta) g t D σ H :=
 hargs _ ⟨hi,rfl,hb.1,hb.2,by rw [hn]; exact AcY Pv h0 hs hd⟩
end
end L2
set_option Elab.async false
set_option linter.all false
set_option maxRecDepth 100000
set_option maxHeartbeats 4000000
namespace L2
open PySem PySem.Spec PyProof.Rows
def Dr (fn:List Str) (env:Env):List (Str × Addr):=fn.map fun x=>(x,(env.cells.lookup x).getD 0)
theorem To {env:Env}:∀ {fn:List Str} {x:Str} {c:Addr},(Dr fn env).lookup x = some c->x ∈ fn/\c = (env.cells.lookup x).getD 0
 | [],_,_,h=>by cases h
 | y :: r,x,c,h=>by
  unfold Dr at h
  rw [List.map_cons,List.lookup_cons] at h
  cases e:x == y with
  | true =>
   rw [e] at h
   have:x = y:=eq_of_beq e
   subst this
   cases h
   exact ⟨List.mem_cons_self,rfl⟩
  | false =>
   rw [e] at h
   obtain ⟨h1,h2⟩:=To (fn:=r) (x:=x) (c:=c) h
   exact ⟨List.mem_cons_of_mem _ h1,h2⟩
theorem Ts {env:Env}:∀ {fn:List Str} {x:Str},x ∈ fn->(Dr fn env).lookup x = some ((env.cells.lookup x).getD 0)
 | [],_,h=>by cases h
 | y :: r,x,h=>by
  unfold Dr
  rw [List.map_cons,List.lookup_cons]
  cases e:x == y with
  | true =>
   have:x = y:=eq_of_beq e
   subst this
   rfl
  | false =>
   rcases List.mem_cons.mp h with z | z
   ·subst z; rw [beq_self_eq_true] at e; cases e
   ·exact Ts z
def Dp (X:Cx) (scope:Scope) (N' fn:List Str) (C:Addr) (fp:List Addr) (s:Shared) (H:Hp):Cx :=
 { X with N:=N',s₀:=s,H₀:=H,env:=compEnvC scope (Dr fn X.env) C X.env,outer:=X.stack,stack:=X.stack,ex:=fp,fn:=fun _=>false,pn:=[],xe:=fun _ _=>False }
def compσ (k:Nat) (fr:List Nat) (σ:St):St:=List.replicate k none ++ fr.map fun i=>(σ[i]?).join
def Nz (wi:TI) (g:TG) (tc:TT) (te:TE) (k:Nat) (fr:List Nat):TE:=fun σ H Q=>wi σ H fun J H1=>∀ D,H1 D = none ->
 ∃ W:Nat->Nat->Hp->Prop,(∃ m,W 0 m (upd H1 D (.lst [])))/\∀ i m H,W i m H->(J.stop i H/\Q (.ref D) H)\/(J.go i H/\∀ x H',J.yld i H x H'->g x (compσ k fr σ) H' fun σ2 H2 =>
  σ2.drop k = (compσ k fr σ).drop k/\tc σ2 H2 fun b H3=>if b = true then te σ2 H3 (fun y H4=>∃ ys,H4 D = some (.lst ys)/\ys.length < sizeLine/\∃ m',m' < m/\W (i + 1) m' (upd H4 D (.lst (ys ++ [y])))) else ∃ m',m' < m/\W (i + 1) m' H3)
def Qr (X:Cx) (ifs:List Expr) (t:TT):Prop :=
 ∀ (pins:List (Addr × Obj)) (s:Shared) (σ:St) (H:Hp) (Q:Bool->Hp->Prop),Inv X pins σ H s->t σ H Q ->
  wpAny (model X.prog X.w) X.A (forIn ifs true fun c r=>if r = true then do let ok <- isTrue c X.env (eval c X.env); pure (ForInStep.yield ok) else pure (ForInStep.yield r)) (TP X pins σ Q) X.xe s
def AbM:TT:=fun _ H Q=>Q true H
theorem Vi {X:Cx}:Qr X [] AbM:=fun _ _ _ H _ I h=>wpAny_tests_nil ⟨H,I,h⟩
theorem So {X:Cx} {c:Expr} {t:TT} (h:PT X c t):Qr X [c] t:=fun pins s σ H Q I q=>wpAny_tests_one (h pins s σ H Q I q)
theorem AcT {prog:Program} {w:World} {A:Around} {R:Result->Shared->Prop} {s:Shared} {elt target iter:Expr} {ifs:List Expr} {scope:Scope} {pos:Pos} {it acc:Value} {env:Env} (I:Nat->Shared->Prop)
  (turn:∀ n s,I n s->wpAny (model prog w) A (pyNext it) (fun r s₁=>match r with
   | none=>R (.ok .next) s₁
   | some v=>wpAny (model prog w) A (letOwnedTupleGo target it v) (fun _ s₁'=>wpAny (model prog w) A (assign target env v) (fun _ s₂ =>
     wpAny (model prog w) A (forIn ifs true fun c r=>if r = true then do let ok <- isTrue c env (eval c env); pure (ForInStep.yield ok) else pure (ForInStep.yield r)) (fun ok s₃ =>
      if ok = true then wpAny (model prog w) A (eval elt env) (fun x s₄ =>
       wpAny (model prog w) A (call (.builtin "list.append") [acc,x]) (fun _ s₅=>∃ m,m < n/\I m s₅) (fun _ _=>False) s₄) (fun _ _=>False) s₃
      else ∃ m,m < n/\I m s₃) (fun _ _=>False) s₂) (fun _ _=>False) s₁') (fun _ _=>False) s₁) (fun _ _=>False) s)
  (n:Nat) (h:I n s) :
  codeAny (model prog w) A (.compLoop (.ListComp elt [⟨target,iter,ifs,0⟩] scope pos) 0 it acc env) R s:=by
 refine codeAny_loop rfl I (fun n s hI=>?_) n h
 show wpAny _ A ((compTurn (.ListComp elt [⟨target,iter,ifs,0⟩] scope pos) 0 it acc env).onRaise (fun x=>do noteFrame x env; theTreesLotGoes x)) _ _ s
 refine wpAny_noted ?_
 rw [compTurn_list]
 refine wpAny_bind (wpAny_standAt (wpAny_bind (wpAny_mono (turn n s hI) (fun r s₁ h₁=>?_) fun _ _ h'=>h'.elim)))
 cases r with
 | none=>exact wpAny_pure h₁
 | some v =>
  refine wpAny_bind (wpAny_mono h₁ (fun _ s₁' h₁'=>?_) fun _ _ h'=>h'.elim)
  refine wpAny_bind (wpAny_mono h₁' (fun _ s₂ h₂=>wpAny_bind (wpAny_mono h₂ (fun ok s₃ h₃=>?_) fun _ _ h'=>h'.elim)) fun _ _ h'=>h'.elim)
  cases ok with
  | false=>exact wpAny_pure ⟨rfl,h₃⟩
  | true =>
   exact wpAny_bind (wpAny_bind (wpAny_mono h₃ (fun x s₄ h₄=>wpAny_bind (wpAny_mono h₄ (fun _ s₅ h₅=>wpAny_pure (wpAny_pure ⟨rfl,h₅⟩)) fun _ _ h'=>h'.elim)) fun _ _ h'=>h'.elim))
theorem compσ_len (k:Nat) (fr:List Nat) (σ:St):(compσ k fr σ).length = k + fr.length:=by
 unfold compσ; rw [List.length_append,List.length_replicate,List.length_map]
theorem compσ_weak {k:Nat} {fr:List Nat} {σ σ2:St} (hd:σ2.drop k = (compσ k fr σ).drop k):∀ (i:Nat) v,(compσ k fr σ)[i]? = some (some v)->σ2[i]? = some (some v):=by
 intro i v h
 by_cases hi:i < k
 ·unfold compσ at h
  rw [List.getElem?_append_left (by rw [List.length_replicate]; exact hi),List.getElem?_replicate] at h
  rw [if_pos hi] at h; cases h
 ·have e:∀ l:St,l[i]? = (l.drop k)[i - k]?:=fun l=>by rw [List.getElem?_drop]; congr 1; omega
  rw [e] at h ⊢
  rw [hd]; exact h
theorem Inv.nsch {X:Cx} {pins:List (Addr × Obj)} {σ:St} {H:Hp} {s:Shared} {C:Addr} {h':Heap} (I:Inv X pins σ H s) (sb:Heap.SameBut C s.heap h') (hC:H C = none) (h1:X.s₀.heap.objs.size <= C) (h2:C ≠ X.env.locals)
  (h3:∀ x c,X.env.cells.lookup x = some c->c ≠ C) (h4:∀ p ∈ X.pn ++ pins,p.1 ≠ C):Inv X pins σ H { s with heap:=h' }:=by
 have nc:∀ b:Addr,b ∉ [C]->b ≠ C:=fun b z w=>z (by rw [w]; exact List.mem_cons_self)
 refine Inv.call (s:=s) I (h':=h') (g':=s.gens) (d':=s.drawn) (t':=s.toks) (ch:=[C]) ⟨fun b o e n _ hx=>(sb.2 b (nc b hx)).trans e,fun b o e n _ hx=>⟨o.slots,(sb.2 b (nc b hx)).trans e⟩,fun _ _ _ n _=>n,fun b o e hx=>⟨o,(sb.2 b (nc b hx)).trans e⟩,fun _ _ e=>e,fun _ _ _ e=>e,fun b ps e=>⟨#[],by rw [Array.append_empty]; exact e⟩⟩ (fun b u e=>?_) I.bare (fun b hb=>?_)
 ·refine (I.hok b u e).stay (fun c v hc' q'=>(sb.2 c ?_).trans q') (fun _ q'=>q') fun _ _ q'=>q'
  rcases hc' with w | w
  ·rw [w]; exact Bn e hC
  ·exact Bn w hC
 ·rw [List.mem_singleton.mp hb]
  exact ⟨.inr h1,h2,h3,h4⟩
theorem Wl {X:Cx} {elt tg iter:Expr} {ifs:List Expr} {scope:Scope} {pos:Pos} {wi:TI} {g:TG} {tc:TT} {te:TE} {k:Nat} {fr:List Nat} {N' fn:List Str} (hc:X.calm = true)
  (hi:PI X tg iter wi) (hN:N'.length = k + fr.length)
  (hfr:∀ j y,N'[k + j]? = some y->∀ i,fr[j]? = some i->X.N[i]? = some y/\X.env.kindOf y = some .cell/\(compEnvC scope (Dr fn X.env) 0 X.env).kindOf y = some .cell/\y ∈ fn)
  (hfn:∀ y ∈ fn,X.env.kindOf y = some .cell)
  (hkd:∀ y,((compEnvC scope (Dr fn X.env) 0 X.env).kindOf y = some .cell\/(compEnvC scope (Dr fn X.env) 0 X.env).kindOf y = some .free)->y ∈ fn)
  (hg:∀ C fp s H,PG (Dp X scope N' fn C fp s H) tg g) (ht:∀ C fp s H,Qr (Dp X scope N' fn C fp s H) ifs tc) (he:∀ C fp s H,PE (Dp X scope N' fn C fp s H) elt te)
  (hclos:closureFor scope X.env = pure (Dr fn X.env)) (hcell:∀ y ∈ scope.names,y.2 ≠ .cell) (hkind:scope.kind = .function) (hnames:∀ y ∈ scope.names,y.2 = .local->scope.names.lookup y.1 = some .local)
  (hs:∀ x,foldedSetIterable iter X.env x = pure x:=by intro _; rfl) {pins:List (Addr × Obj)} {s:Shared} {σ:St} {H:Hp} {Q:VK} {use:Option (Value->Sem Unit)} {Qc:Value->Shared->Prop} {cpos:Pos} (I:Inv X pins σ H s) (h:Nz wi g tc te k fr σ H Q)
  (fin:∀ (H3:Hp) (s4:Shared) (D C:Addr) (m:Str->Option Value),s4.heap.Ns C m->Inv X pins σ H3 s4->H3 C = none->X.s₀.heap.objs.size <= C->C ≠ X.env.locals->(∀ x c,X.env.cells.lookup x = some c->c ≠ C)->(∀ p ∈ X.pn ++ pins,p.1 ≠ C)->Q (.ref D) H3 ->
   compPost (model X.prog X.w) X.A X.xe use Qc (.ref D) C (.ok .next) s4) :
  wpAny (model X.prog X.w) X.A (comprehension (.ListComp elt [⟨tg,iter,ifs,0⟩] scope pos) scope X.env cpos (newList []) false (eval iter X.env) use) Qc X.xe s:=by
 refine wpAny_comprehension_free (use:=use) rfl hs hclos hkind hnames (thn (hi pins s σ H _ I h) fun v s1 h1=>thn h1 fun itv s2 h2=>?_)
 obtain ⟨it,fp,tn,J,H2,e,I2,T,st2,f2,q⟩:=h2
 subst e
 have hfr2:H2 s2.heap.objs.size = none:=I2.hok.fresh (Nat.le_refl _)
 obtain ⟨W,⟨m0,w0⟩,turn⟩:=q s2.heap.objs.size hfr2
 refine wpAny_newObj_type (wpAny_newFunctionEnv hcell (by intro y hy; simp at hy) (fun h₁ hns₁ hsb₁=>?_) hkind)
 dsimp only at hns₁ hsb₁ ⊢
 generalize hHH:s2.heap.push { cls:=.type "list",dict:=none,data:=.seq ([]:List Value).toArray } = HH at hns₁ hsb₁ ⊢
 have hC:HH.objs.size = s2.heap.objs.size + 1:=by rw [<- hHH,Heap.size_push]
 have hDC:s2.heap.objs.size ≠ HH.objs.size:=by rw [hC]; exact Nat.ne_of_lt (Nat.lt_succ_self _)
 have hCle:s2.heap.objs.size <= HH.objs.size:=by rw [hC]; exact Nat.le_succ _
 have below:∀ b,b < s2.heap.objs.size->b ≠ HH.objs.size:=fun b hb=>by rw [hC]; exact Nat.ne_of_lt (Nat.lt_succ_of_lt hb)
 have old:∀ b o,s2.heap.get? b = some o->h₁.get? b = some o:=fun b o e=>hsb₁.extBut b o (below b (Heap.lt_size e)) (Heap.get?_push_of_some _ (hHH ▸ Heap.get?_push_of_some _ e))
 have hacc:h₁.get? s2.heap.objs.size = some { cls:=.type "list",dict:=none,data:=.seq ([]:List Value).toArray }:=hsb₁.extBut _ _ hDC (Heap.get?_push_of_some _ (hHH ▸ Heap.get?_push_size _ rfl))
 have hst₁:tn 0 h₁:=T.keep _ _ _ st2 fun b _ o e=>old b o e
 -- the cells from around
 have hcl:∀ x c,(Dr fn X.env).lookup x = some c->X.env.cells.lookup x = some c:=fun x c e=>by
  obtain ⟨h1,h2⟩:=To e
  obtain ⟨c',e'⟩:=I2.ok.has x (.inl (hfn x h1))
  rw [h2,e']; rfl
 have kd0:∀ C y,(compEnvC scope (Dr fn X.env) C X.env).kindOf y = (compEnvC scope (Dr fn X.env) 0 X.env).kindOf y:=fun _ _=>rfl
 have fpLt:∀ b ∈ fp,b < s2.heap.objs.size:=fun b hb=>by obtain ⟨o,e,_⟩:=T.obj _ _ st2 b hb; exact Heap.lt_size e
 have cLt:∀ x c,(Dr fn X.env).lookup x = some c->c < s2.heap.objs.size:=fun x c e=>by obtain ⟨v,z⟩:=I2.cell x c (hcl x c e); exact z.lt
 -- the block's context
 generalize hX:Dp X scope N' fn HH.objs.size fp s2 H2 = X'
 have ok:X'.Ok:=by
  subst hX
  exact {
   mod:=I2.ok.mod
   kind:=hkind
   glob:=I2.ok.glob
   blt:=I2.ok.blt
   above:=hCle
   inj:=fun x y c h1 h2=>I2.ok.inj x y c (hcl x c h1) (hcl y c h2)
   has:=fun x hx=>⟨_,Ts (hkd x hx)⟩
   cab:=fun x c z=>by cases z
   hd:=fun _=>I2.ok.hd hc
   frames:=I2.ok.frames
   stk:=.inl rfl
   exf:=fun b hb=>⟨Nat.ne_of_lt (Nat.lt_of_lt_of_le (fpLt b hb) hCle),fun x c e z=>by
    obtain ⟨_,_,_,_,f4,_⟩:=f2 b hb
    exact f4 x c (hcl x c e) z⟩
   bs:=I2.bs
   bsz:=Nat.le_trans I2.ok.bsz I2.sz
   noex:=fun b o e z=>by
    obtain ⟨_,_,_,f3,_,_⟩:=f2 b z
    rcases f3 with w | w
    ·exact I2.ok.noex b o e w
    ·have h1:=(I2.ok.bs b o e).1
     exact absurd (Nat.lt_of_lt_of_le (Heap.lt_size h1) w) (Nat.lt_irrefl _)
   exfs:=fun b z hb=>by
    obtain ⟨_,f1,f2',_⟩:=f2 b z
    rcases List.mem_cons.mp (I2.stkSub b hb) with w | w
    ·exact f1 w
    ·exact f2' w
   funs:=I2.stack
   frf:=I2.stkFree }
 have un1:Un X'.fs X'.ex H2 (upd H2 s2.heap.objs.size (.lst [])) s2.heap h₁:=Un.laid old (Nat.le_refl _) hfr2
 have hok1:HOk X.prog X.w (upd H2 s2.heap.objs.size (.lst [])) h₁:=I2.hok.laid old (Nat.le_refl _) ⟨Nat.zero_le _,[],0,.nil,hacc⟩
 have nC:H2 HH.objs.size = none:=I2.hok.fresh hCle
 have I0:∀ tk,Inv X' [] (compσ k fr σ) (upd H2 s2.heap.objs.size (.lst [])) { s2 with heap:=h₁,toks:=tk }:=fun tk=>by
  have ex:X'.env = compEnvC scope (Dr fn X.env) HH.objs.size X.env:=by subst hX; rfl
  refine ⟨ok,by subst hX; rfl,I2.bare,by subst hX; exact un1,?_,?_,?_,?_,?_,by subst hX; exact hok1,?_⟩
  ·obtain ⟨m,hn,hl⟩:=I2.loc
   refine ⟨_,by rw [ex]; exact hns₁,fun i x v e1 e2 e3=>?_⟩
   have e1':N'[i]? = some x:=by subst hX; exact e1
   have hik:k <= i:=by
    rcases Nat.lt_or_ge i k with z | z
    ·unfold compσ at e2
     rw [List.getElem?_append_left (by rw [List.length_replicate]; exact z),List.getElem?_replicate,if_pos z] at e2
     cases e2
    ·exact z
   obtain ⟨j,rfl⟩:=Nat.exists_eq_add_of_le hik
   have e2':(fr.map fun i=>(σ[i]?).join)[j]? = some (some v):=by
    unfold compσ at e2
    rw [List.getElem?_append_right (by rw [List.length_replicate]; omega),List.length_replicate] at e2
    simpa using e2
   rw [List.getElem?_map] at e2'
   cases ef:fr[j]? with
   | none=>rw [ef] at e2'; cases e2'
   | some i0 =>
    rw [ef] at e2'
    have e4:(σ[i0]?).join = some v:=Option.some.inj e2'
    obtain ⟨a1,a2,a3,a4⟩:=hfr j x e1' i0 ef
    have e5:σ[i0]? = some (some v):=by
     cases z:σ[i0]? with
     | none=>rw [z] at e4; cases e4
     | some o=>rw [z] at e4; have:o = some v:=e4; rw [this]
    obtain ⟨u,ru,l⟩:=hl i0 x v a1 e5 (.inr (.inl a2))
    refine ⟨u,ru,.inr ⟨.inl (by rw [ex,kd0]; exact a3),?_⟩⟩
    rcases l with ⟨lk,_⟩ | ⟨_,c,lc,lcell⟩
    ·rw [a2] at lk; cases lk
    ·refine ⟨c,by rw [ex]; show (Dr fn X.env).lookup x = some c; rw [Ts a4,lc]; rfl,?_⟩
     obtain ⟨o,ho,hd⟩:=lcell
     exact ⟨o,old c o ho,hd⟩
  ·intro x c e
   rw [ex] at e
   obtain ⟨v,o,ho,hd⟩:=I2.cell x c (hcl x c e)
   exact ⟨v,o,old c o ho,hd⟩
  ·rw [ex]
   show (upd H2 s2.heap.objs.size (.lst [])) HH.objs.size = none
   rw [Bg hDC.symm]; exact nC
  ·intro x c e
   rw [ex] at e
   rw [Bg (Nat.ne_of_lt (cLt x c e))]
   exact I2.freeC x c (hcl x c e)
  ·intro p hp
   subst hX
   exact absurd (show p ∈ ([]:List (Addr × Obj)) from hp) (by simp)
  ·rw [compσ_len]; subst hX; exact hN.symm
 have fpOk:∀ {H':Hp} {pins':List (Addr × Obj)},(∀ b ∈ fp,H' b = none)->pins' = []->∀ b ∈ fp,Uc X' pins' H' b:=fun {H' pins'} hn e b hb=>by
  subst e
  obtain ⟨_,f1,f2',f3,f4,f5⟩:=f2 b hb
  subst hX
  refine ⟨hn b hb,Nat.ne_of_lt (Nat.lt_of_lt_of_le (fpLt b hb) hCle),fun z=>?_,.inl hb,fun x c e=>f4 x c (hcl x c e),fun p hp=>absurd (show p ∈ ([]:List (Addr × Obj)) from hp) (by simp)⟩
  rcases List.mem_cons.mp (I2.stkSub b z) with w | w
  ·exact f1 w
  ·exact f2' w
 have eqP:X'.prog = X.prog/\X'.w = X.w/\X'.K = X.K/\X'.calm = true/\X'.A = X.A/\X'.env = compEnvC scope (Dr fn X.env) HH.objs.size X.env/\X'.N = N':=by subst hX; exact ⟨rfl,rfl,rfl,hc,rfl,rfl,rfl⟩
 obtain ⟨eP,eW,eK,eC,eA,eE,eN⟩:=eqP
 have hg':PG X' tg g:=by subst hX; exact hg _ _ _ _
 have ht':Qr X' ifs tc:=by subst hX; exact ht _ _ _ _
 have he':PE X' elt te:=by subst hX; exact he _ _ _ _
 have eX:X'.xe = fun _ _=>False:=by subst hX; rfl
 have loop:∀ s₃:Shared,s₃ = { s2 with heap:=h₁,toks:=s2.toks + ([]:List (Str × Value)).length } ->
   codeAny (model X.prog X.w) X.A (.compLoop (.ListComp elt [⟨tg,iter,ifs,0⟩] scope pos) 0 (.ref it) (.ref s2.heap.objs.size) (compEnvC scope (Dr fn X.env) HH.objs.size X.env))
    (compPost (model X.prog X.w) X.A X.xe use Qc (.ref s2.heap.objs.size) HH.objs.size) s₃:=by
  rintro s₃ rfl
  refine AcT (fun n s'=>∃ i H',Inv X' [] (compσ k fr σ) H' s'/\tn i s'.heap/\(∀ b ∈ fp,H' b = none)/\W i n H') ?_ m0 ⟨0,_,I0 _,hst₁,fun b hb=>by rw [Bg (Nat.ne_of_lt (fpLt b hb))]; exact (f2 b hb).1,w0⟩
  rintro n s3 ⟨i,H3,I3,st3,fr3,w3⟩
  rcases turn i n H3 w3 with ⟨stop,qn⟩ | ⟨go,step⟩
  ·have d:=T.done X' eP eW eK eC i [] s3 (compσ k fr σ) H3 (fun _ _=>False) I3 (fpOk fr3 rfl) st3 stop
   rw [eA] at d
   refine thn d fun r s4 ⟨hr,I4⟩=>?_
   subst hr
   obtain ⟨m,hn,_⟩:=I4.loc
   rw [eE] at hn
   have u4:Un (frs X.stack) fp H2 H3 s2.heap s4.heap:=by have:=I4.base; subst hX; exact this
   have nC3:H3 HH.objs.size = none:=by have:=I4.free; rw [eE] at this; exact this
   have hok5:HOk X.prog X.w H3 s4.heap:=fun b u e=>by
    have z:=I4.hok b u e
    rw [eP,eW] at z
    exact z
   have os4:s4.os = s2.os:=by have:=I4.os; subst hX; exact this
   obtain ⟨hh,gg,dd,tt,oo⟩:=s4
   obtain rfl:oo = s2.os:=os4
   have Ix:Inv X pins σ H3 ⟨hh,gg,dd,tt,s2.os⟩:=Inv.call (s:=s2) I2 (h':=hh) (g':=gg) (d':=dd) (t':=tt) (ch:=fp) u4 hok5 I4.bare fun b hb=>by
    obtain ⟨_,f1,_,f3,f4,f5⟩:=f2 b hb
    exact ⟨f3,f1,f4,f5⟩
   refine fin H3 _ _ _ m hn Ix nC3 (Nat.le_trans I2.sz hCle) ?_ (fun x c e=>?_) (fun p hp=>?_) qn
   ·obtain ⟨_,⟨o,_,_,ho,_⟩,_⟩:=I2.loc
    exact (below _ (Heap.lt_size ho)).symm
   ·obtain ⟨v,z⟩:=I2.cell x c e
    exact below _ z.lt
   ·exact below _ (Heap.lt_size (I2.pin p hp).1)
  ·have d:=T.item X' eP eW eK eC i [] s3 (compσ k fr σ) H3 (fun _ _=>False) I3 (fpOk fr3 rfl) st3 go
   rw [eA] at d
   refine thn d fun r s4 ⟨u,hr,h4⟩=>?_
   subst hr
   refine thn h4 fun _ s5 ⟨x,H5,I5,r5,y5,st5,fr5⟩=>?_
   have I5':=I5.pinned (fpOk fr5 rfl) (T.obj _ _ st5)
   have a1:=hg' _ s5 (compσ k fr σ) H5 x u _ I5' r5 (step x H5 y5)
   rw [eP,eW,eA,eE,eX] at a1
   refine thn a1 fun _ s6 ⟨σ6,H6,I6,q6a,q6⟩=>?_
   have a2:=ht' _ s6 σ6 H6 _ I6 q6
   rw [eP,eW,eA,eE,eX] at a2
   refine thn a2 fun b s7 ⟨H7,I7,q7⟩=>?_
   have again:∀ {H8:Hp} {s8:Shared},Inv X' ([] ++ Si fp s5.heap) σ6 H8 s8->(∃ m',m' < n/\W (i + 1) m' H8)->∃ m,m < n/\∃ i H',Inv X' [] (compσ k fr σ) H' s8/\tn i s8.heap/\(∀ b ∈ fp,H' b = none)/\W i m H':=fun {H8 s8} I8 ⟨m',hm,w8⟩=>by
    refine ⟨m',hm,i + 1,H8,I8.unpinned.weak ?_ (compσ_weak q6a),T.keep _ _ _ st5 fun b hb o e=>(I8.pin (b,o) (List.mem_append_right _ (List.mem_append_right _ (Li hb e)))).1,fun b hb=>?_,w8⟩
    ·rw [compσ_len,I8.len,eN,hN]
    ·obtain ⟨o,e,_⟩:=T.obj _ _ st5 b hb
     exact (I8.pin (b,o) (List.mem_append_right _ (List.mem_append_right _ (Li hb e)))).2.1
   cases b with
   | false =>
    rw [if_neg Bool.false_ne_true] at q7 ⊢
    exact again I7 q7
   | true =>
    rw [if_pos rfl] at q7 ⊢
    have a3:=he' _ s7 σ6 H7 _ I7 q7
    rw [eP,eW,eA,eE,eX] at a3
    refine thn a3 fun yv s8 ⟨y,H8,I8,r8,ys,hD,hz,q8⟩=>?_
    have a4:=Wd (X:=X') _ s8 σ6 H8 (.ref s2.heap.objs.size) [y] (.ref s2.heap.objs.size) [yv] (fun _ H9=>∃ m',m' < n/\W (i + 1) m' H9) I8 rfl (.cons r8 .nil) ⟨_,ys,y,rfl,rfl,hD,hz,q8⟩
    rw [eP,eW,eA,eX] at a4
    exact thn a4 fun _ s9 ⟨_,H9,I9,_,q9⟩=>again I9 q9
 exact codeAny_compStart_list (loop _ rfl) (T.self _ 0 _ _ _ hst₁ (loop _ rfl))
theorem Aay {X:Cx} {elt tg iter:Expr} {ifs:List Expr} {scope:Scope} {pos:Pos} {wi:TI} {g:TG} {tc:TT} {te:TE} {k:Nat} {fr:List Nat} {N' fn:List Str} (hc:X.calm = true)
  (hi:PI X tg iter wi) (hN:N'.length = k + fr.length)
  (hfr:∀ j y,N'[k + j]? = some y->∀ i,fr[j]? = some i->X.N[i]? = some y/\X.env.kindOf y = some .cell/\(compEnvC scope (Dr fn X.env) 0 X.env).kindOf y = some .cell/\y ∈ fn)
  (hfn:∀ y ∈ fn,X.env.kindOf y = some .cell)
  (hkd:∀ y,((compEnvC scope (Dr fn X.env) 0 X.env).kindOf y = some .cell\/(compEnvC scope (Dr fn X.env) 0 X.env).kindOf y = some .free)->y ∈ fn)
  (hg:∀ C fp s H,PG (Dp X scope N' fn C fp s H) tg g) (ht:∀ C fp s H,Qr (Dp X scope N' fn C fp s H) ifs tc) (he:∀ C fp s H,PE (Dp X scope N' fn C fp s H) elt te)
  (hclos:closureFor scope X.env = pure (Dr fn X.env)) (hcell:∀ y ∈ scope.names,y.2 ≠ .cell) (hkind:scope.kind = .function) (hnames:∀ y ∈ scope.names,y.2 = .local->scope.names.lookup y.1 = some .local)
  (hs:∀ x,foldedSetIterable iter X.env x = pure x:=by intro _; rfl):PE X (.ListComp elt [⟨tg,iter,ifs,0⟩] scope pos) (Nz wi g tc te k fr):=by
 intro pins s σ H Q I h
 rw [eval_ListComp]
 refine Wl hc hi hN hfr hfn hkd hg ht he hclos hcell hkind hnames hs I h fun H3 s4 D C m hn Ix hC h1 h2 h3 h4 q=>?_
 exact ⟨m,hn,fun h' sb=>⟨.ref D,H3,Inv.nsch Ix sb hC h1 h2 h3 h4,rfl,q⟩⟩
theorem AgU {X:Cx} {elt tg iter:Expr} {ifs:List Expr} {scope:Scope} {pos px spos:Pos} {i:Nat} {x:Str} {wi:TI} {g:TG} {tc:TT} {te:TE} {k:Nat} {fr:List Nat} {N' fn:List Str} (hc:X.calm = true)
  (hi:PI X tg iter wi) (hN:N'.length = k + fr.length)
  (hfr:∀ j y,N'[k + j]? = some y->∀ i,fr[j]? = some i->X.N[i]? = some y/\X.env.kindOf y = some .cell/\(compEnvC scope (Dr fn X.env) 0 X.env).kindOf y = some .cell/\y ∈ fn)
  (hfn:∀ y ∈ fn,X.env.kindOf y = some .cell)
  (hkd:∀ y,((compEnvC scope (Dr fn X.env) 0 X.env).kindOf y = some .cell\/(compEnvC scope (Dr fn X.env) 0 X.env).kindOf y = some .free)->y ∈ fn)
  (hg:∀ C fp s H,PG (Dp X scope N' fn C fp s H) tg g) (ht:∀ C fp s H,Qr (Dp X scope N' fn C fp s H) ifs tc) (he:∀ C fp s H,PE (Dp X scope N' fn C fp s H) elt te)
  (hclos:closureFor scope X.env = pure (Dr fn X.env)) (hcell:∀ y ∈ scope.names,y.2 ≠ .cell) (hkind:scope.kind = .function) (hnames:∀ y ∈ scope.names,y.2 = .local->scope.names.lookup y.1 = some .local)
  (hs:∀ x,foldedSetIterable iter X.env x = pure x:=by intro _; rfl) (hNd:X.N.Nodup) (hix:X.N[i]? = some x) (hx:Loc X.env.scope x) (hsw:swapsWith (.ListComp elt [⟨tg,iter,ifs,0⟩] scope pos) (some (.Name x px)) spos.line X.env = pure true)
  (hf:X.fn x = true\/X.env.scope.names.lookup x = some .local:=by first | exact .inl rfl | exact .inr rfl | assumption):PS X (.Assign [.Name x px] (.ListComp elt [⟨tg,iter,ifs,0⟩] scope pos) spos) (Sa (Nz wi g tc te k fr) (Lo i)):=by
 intro pins s σ H D I h
 rw [exec_Assign_Name_used _ _ _ _ hsw]
 refine wpAny_bind (wpAny_standAt (wpAny_bind ?_))
 show wpAny _ X.A (do let _ <- comprehension (.ListComp elt [⟨tg,iter,ifs,0⟩] scope pos) scope X.env _ (newList []) false (eval iter X.env) (some (assign (.Name x px) X.env))) _ _ s
 refine wpAny_bind (wpAny_mono (Wl (use:=some (assign (.Name x px) X.env)) (Qc:=fun _ s'=>SP X pins D .next s') hc hi hN hfr hfn hkd hg ht he hclos hcell hkind hnames hs I h fun H3 s4 D' C m hn Ix hC h1 h2 h3 h4 q=>?_) (fun _ s' hq=>wpAny_pure (wpAny_pure hq)) fun _ _ e=>e)
 show wpAny _ X.A (assign (.Name x px) X.env (.ref D')) _ _ _
 refine wpAny_assign_Name (Wo Ix hNd hix hx (v:=.ref D') rfl (fun s' I' ⟨a,sb,ha⟩=>?_) hf)
 have nCa:C ≠ a:=by
  rcases ha with w | w
  ·rw [w]; exact h2
  ·exact (h3 _ _ w).symm
 exact ⟨m,hn.sameBut sb nCa,fun h' sb'=>⟨_,H3,Inv.nsch I' sb' hC h1 h2 h3 h4,q⟩⟩
theorem Bw {X:Cx} {scope:Scope} {N' fn:List Str} {C:Addr} {fp:List Addr} {s:Shared} {H:Hp}:(Dp X scope N' fn C fp s H).K = X.K:=rfl
theorem Th {X:Cx} {pos:Pos} {K':PySem.W.Frag} (hK:X.K = K') {es:List Expr} {k:Nat} {t:TGs} {n:Nat} (hc:X.calm = true) (h:PGs X es t)
  (hn:(assignEach es X.env).length = n:=by rfl) (hst:(assignEach es X.env).findIdx? (·.1) = none:=by rfl):PG X (.Tuple es k pos) (Zj K' n t):=by
 subst hK
 exact Nn hc h hn hst
theorem La:∀ {l:List (Str × NameKind)} {y:Str} {k:NameKind},l.lookup y = some k->(y,k) ∈ l
 | [],_,_,h=>by cases h
 | (x,j) :: r,y,k,h=>by
  rw [List.lookup_cons] at h
  cases e:y == x with
  | true =>
   rw [e] at h
   cases h
   rw [eq_of_beq e]; exact List.mem_cons_self
  | false =>
   rw [e] at h
   exact List.mem_cons_of_mem _ (La h)
theorem Tx {X:Cx} {elt tg iter:Expr} {ifs:List Expr} {scope:Scope} {pos:Pos} {wi:TI} {g:TG} {tc:TT} {te:TE} (k:Nat) (N':List Str) (hN:N'.length = k) (hc:X.calm = true)
  (hi:PI X tg iter wi)
  (hg:∀ C fp s H,PG (Dp X scope N' [] C fp s H) tg g) (ht:∀ C fp s H,Qr (Dp X scope N' [] C fp s H) ifs tc) (he:∀ C fp s H,PE (Dp X scope N' [] C fp s H) elt te)
  (hfree:∀ y ∈ scope.names,y.2 ≠ .free) (hcell:∀ y ∈ scope.names,y.2 ≠ .cell) (hkind:scope.kind = .function) (hnames:∀ y ∈ scope.names,y.2 = .local->scope.names.lookup y.1 = some .local)
  (hs:∀ x,foldedSetIterable iter X.env x = pure x:=by intro _; rfl):PE X (.ListComp elt [⟨tg,iter,ifs,0⟩] scope pos) (Nz wi g tc te k []):=by
 refine Aay (fn:=[]) (fr:=[]) (k:=k) hc hi hN (fun j y _ i e=>by simp at e) (fun y hy=>by cases hy) (fun y h=>?_) hg ht he (PySem.closureFor_none hfree) hcell hkind hnames hs
 have e:∀ k,(compEnvC scope (Dr [] X.env) 0 X.env).kindOf y = some k->∃ p ∈ scope.names,p.2 = .free\/p.2 = k:=by
  intro k h
  have m:=La (show (relabel scope X.env).names.lookup y = some k from h)
  obtain ⟨p,hp,ep⟩:=List.mem_map.mp (show (y,k) ∈ scope.names.map _ from m)
  obtain ⟨n,kd⟩:=p
  refine ⟨(n,kd),hp,?_⟩
  dsimp only at ep
  split at ep
  ·rename_i c
   simp only [Bool.and_eq_true,beq_iff_eq] at c
   exact .inl c.1.1
  ·exact .inr (Prod.mk.inj ep).2
 rcases h with h | h
 ·obtain ⟨p,hp,z⟩:=e _ h
  rcases z with z | z
  ·exact (hfree p hp z).elim
  ·exact (hcell p hp z).elim
 ·obtain ⟨p,hp,z⟩:=e _ h
  rcases z with z | z
  ·exact (hfree p hp z).elim
  ·exact (hfree p hp z).elim
theorem Yo {X:Cx} {elt tg iter:Expr} {ifs:List Expr} {scope:Scope} {pos px spos:Pos} {i:Nat} {x:Str} {wi:TI} {g:TG} {tc:TT} {te:TE} (k:Nat) (N':List Str) (hN:N'.length = k) (hc:X.calm = true)
  (hi:PI X tg iter wi)
  (hg:∀ C fp s H,PG (Dp X scope N' [] C fp s H) tg g) (ht:∀ C fp s H,Qr (Dp X scope N' [] C fp s H) ifs tc) (he:∀ C fp s H,PE (Dp X scope N' [] C fp s H) elt te)
  (hfree:∀ y ∈ scope.names,y.2 ≠ .free) (hcell:∀ y ∈ scope.names,y.2 ≠ .cell) (hkind:scope.kind = .function) (hnames:∀ y ∈ scope.names,y.2 = .local->scope.names.lookup y.1 = some .local)
  (hs:∀ x,foldedSetIterable iter X.env x = pure x:=by intro _; rfl) (hNd:X.N.Nodup) (hix:X.N[i]? = some x) (hx:Loc X.env.scope x) (hsw:swapsWith (.ListComp elt [⟨tg,iter,ifs,0⟩] scope pos) (some (.Name x px)) spos.line X.env = pure true)
  (hf:X.fn x = true\/X.env.scope.names.lookup x = some .local:=by first | exact .inl rfl | exact .inr rfl | assumption):PS X (.Assign [.Name x px] (.ListComp elt [⟨tg,iter,ifs,0⟩] scope pos) spos) (Sa (Nz wi g tc te k []) (Lo i)):=by
 refine AgU (fn:=[]) (fr:=[]) (k:=k) hc hi hN (fun j y _ i e=>by simp at e) (fun y hy=>by cases hy) (fun y h=>?_) hg ht he (PySem.closureFor_none hfree) hcell hkind hnames hs hNd hix hx hsw hf
 have e:∀ k,(compEnvC scope (Dr [] X.env) 0 X.env).kindOf y = some k->∃ p ∈ scope.names,p.2 = .free\/p.2 = k:=by
  intro k h
  have m:=La (show (relabel scope X.env).names.lookup y = some k from h)
  obtain ⟨p,hp,ep⟩:=List.mem_map.mp (show (y,k) ∈ scope.names.map _ from m)
  obtain ⟨n,kd⟩:=p
  refine ⟨(n,kd),hp,?_⟩
  dsimp only at ep
  split at ep
  ·rename_i c
   simp only [Bool.and_eq_true,beq_iff_eq] at c
   exact .inl c.1.1
  ·exact .inr (Prod.mk.inj ep).2
 rcases h with h | h
 ·obtain ⟨p,hp,z⟩:=e _ h
  rcases z with z | z
  ·exact (hfree p hp z).elim
  ·exact (hcell p hp z).elim
 ·obtain ⟨p,hp,z⟩:=e _ h
  rcases z with z | z
  ·exact (hfree p hp z).elim
  ·exact (hfree p hp z).elim
theorem Air {σ:St} {H:Hp} {B:Bool->Hp->Prop} (q:B true H):AbM σ H B:=q
theorem Zs {X:Cx} {elt tg iter:Expr} {ifs:List Expr} {scope:Scope} {pos:Pos} {wi:TI} {g:TG} {tc:TT} {te:TE} (k:Nat) (fr:List Nat) (N' fn:List Str) (hc:X.calm = true)
  (hi:PI X tg iter wi) (hN:N'.length = k + fr.length)
  (hfr:∀ j y,N'[k + j]? = some y->∀ i,fr[j]? = some i->X.N[i]? = some y/\X.env.kindOf y = some .cell/\(compEnvC scope (Dr fn X.env) 0 X.env).kindOf y = some .cell/\y ∈ fn)
  (hfn:∀ y ∈ fn,X.env.kindOf y = some .cell) (hkd:∀ p ∈ scope.names,(p.2 = .cell\/p.2 = .free)->p.1 ∈ fn)
  (hg:∀ C fp s H,PG (Dp X scope N' fn C fp s H) tg g) (ht:∀ C fp s H,Qr (Dp X scope N' fn C fp s H) ifs tc) (he:∀ C fp s H,PE (Dp X scope N' fn C fp s H) elt te)
  (hclos:closureFor scope X.env = pure (Dr fn X.env)) (hcell:∀ y ∈ scope.names,y.2 ≠ .cell) (hkind:scope.kind = .function) (hnames:∀ y ∈ scope.names,y.2 = .local->scope.names.lookup y.1 = some .local)
  (hs:∀ x,foldedSetIterable iter X.env x = pure x:=by intro _; rfl):PE X (.ListComp elt [⟨tg,iter,ifs,0⟩] scope pos) (Nz wi g tc te k fr):=by
 refine Aay hc hi hN hfr hfn (fun y h=>?_) hg ht he hclos hcell hkind hnames hs
 have e:∀ k,(compEnvC scope (Dr fn X.env) 0 X.env).kindOf y = some k->∃ p ∈ scope.names,p.1 = y/\(p.2 = .free\/p.2 = k):=by
  intro k h
  have m:=La (show (relabel scope X.env).names.lookup y = some k from h)
  obtain ⟨p,hp,ep⟩:=List.mem_map.mp (show (y,k) ∈ scope.names.map _ from m)
  obtain ⟨n,kd⟩:=p
  refine ⟨(n,kd),hp,?_⟩
  dsimp only at ep
  split at ep
  ·rename_i c
   simp only [Bool.and_eq_true,beq_iff_eq] at c
   exact ⟨(Prod.mk.inj ep).1,.inl c.1.1⟩
  ·exact ⟨(Prod.mk.inj ep).1,.inr (Prod.mk.inj ep).2⟩
 rcases h with h | h
 ·obtain ⟨p,hp,z1,z⟩:=e _ h
  rw [<- z1]; exact hkd p hp (z.elim .inr .inl)
 ·obtain ⟨p,hp,z1,z⟩:=e _ h
  rw [<- z1]; exact hkd p hp (.inr (z.elim id id))
theorem Ab2 {K:PySem.W.Frag} {σ:St} {H:Hp} {Q:VK} {D a:Addr} {xs:List V} {g:TG} {tc:TT} {te:TE} {k:Nat} {fr:List Nat} (Pv:Nat->Hp->Prop)
  (h0:Pv 0 H) (hl:∀ i H',i <= xs.length->Pv i H'->SqL K H' a xs)
  (hs:∀ i x H' (N:Hp->Prop),xs[i]? = some x->Pv i H'->(∀ H'',Pv (i + 1) H''->N H'')->g x (compσ k fr σ) H' fun σ2 H2=>σ2.drop k = (compσ k fr σ).drop k/\tc σ2 H2 fun b H3 =>
   if b = true then te σ2 H3 (fun y H4=>∃ ys,H4 D = some (.lst ys)/\ys.length < sizeLine/\N (upd H4 D (.lst (ys ++ [y])))) else N H3)
  (hd:∀ H',Pv xs.length H'->Q (.ref D) H') :
  ∃ W:Nat->Nat->Hp->Prop,(∃ m,W 0 m H)/\∀ i m H,W i m H->((Itl K a).stop i H/\Q (.ref D) H)\/((Itl K a).go i H/\∀ x H',(Itl K a).yld i H x H'->g x (compσ k fr σ) H' fun σ2 H2 =>
  σ2.drop k = (compσ k fr σ).drop k/\tc σ2 H2 fun b H3=>if b = true then te σ2 H3 (fun y H4=>∃ ys,H4 D = some (.lst ys)/\ys.length < sizeLine/\∃ m',m' < m/\W (i + 1) m' (upd H4 D (.lst (ys ++ [y])))) else ∃ m',m' < m/\W (i + 1) m' H3):=by
 refine ⟨fun i m H=>m = xs.length - i/\i <= xs.length/\Pv i H,⟨xs.length,by simp,Nat.zero_le _,h0⟩,?_⟩
 rintro i m H' ⟨rfl,hi,p⟩
 have q:=hl i H' hi p
 by_cases hlt:i < xs.length
 ·refine .inr ⟨⟨xs,xs[i],q,by simp [hlt]⟩,fun x H'' y=>?_⟩
  obtain ⟨e,y⟩:=y
  subst e
  exact hs i x _ (fun H''=>∃ m',m' < xs.length - i/\m' = xs.length - (i + 1)/\i + 1 <= xs.length/\Pv (i + 1) H'') (y xs q) p fun H'' p'=>⟨_,by omega,rfl,hlt,p'⟩
 ·have e:i = xs.length:=by omega
  subst e
  exact .inl ⟨⟨xs,q,Nat.le_refl _⟩,hd H' p⟩
theorem Abp {σ:St} {H:Hp} {Q:VK} {D:Addr} {lo:Int} {n:Nat} {g:TG} {tc:TT} {te:TE} {k:Nat} {fr:List Nat} (Pv:Nat->Hp->Prop) (h0:Pv 0 H)
  (hs:∀ i H' (N:Hp->Prop),i < n->Pv i H'->(∀ H'',Pv (i + 1) H''->N H'')->g (.int (lo + i)) (compσ k fr σ) H' fun σ2 H2=>σ2.drop k = (compσ k fr σ).drop k/\tc σ2 H2 fun b H3 =>
   if b = true then te σ2 H3 (fun y H4=>∃ ys,H4 D = some (.lst ys)/\ys.length < sizeLine/\N (upd H4 D (.lst (ys ++ [y])))) else N H3)
  (hd:∀ H',Pv n H'->Q (.ref D) H') :
  ∃ W:Nat->Nat->Hp->Prop,(∃ m,W 0 m H)/\∀ i m H,W i m H->((Itr lo n).stop i H/\Q (.ref D) H)\/((Itr lo n).go i H/\∀ x H',(Itr lo n).yld i H x H'->g x (compσ k fr σ) H' fun σ2 H2 =>
  σ2.drop k = (compσ k fr σ).drop k/\tc σ2 H2 fun b H3=>if b = true then te σ2 H3 (fun y H4=>∃ ys,H4 D = some (.lst ys)/\ys.length < sizeLine/\∃ m',m' < m/\W (i + 1) m' (upd H4 D (.lst (ys ++ [y])))) else ∃ m',m' < m/\W (i + 1) m' H3):=by
 refine ⟨fun i m H=>m = n - i/\i <= n/\Pv i H,⟨n,by simp,Nat.zero_le _,h0⟩,?_⟩
 rintro i m H' ⟨rfl,hi,p⟩
 by_cases hlt:i < n
 ·refine .inr ⟨hlt,fun x H'' y=>?_⟩
  obtain ⟨e,y⟩:=y
  subst e
  subst y
  exact hs i _ (fun H''=>∃ m',m' < n - i/\m' = n - (i + 1)/\i + 1 <= n/\Pv (i + 1) H'') hlt p fun H'' p'=>⟨_,by omega,rfl,hlt,p'⟩
 ·have e:i = n:=by omega
  subst e
  exact .inl ⟨Nat.le_refl _,hd H' p⟩
section
variable {X:Cx} {K':PySem.W.Frag}
theorem Dd (K':PySem.W.Frag) (h:X.K = K':=by rfl):IxR X (AbE K'):=by subst h; exact Rs
theorem Du (K':PySem.W.Frag) (h:X.K = K':=by rfl):IxR X (AbU K'):=by subst h; exact Dy
theorem AaX (K':PySem.W.Frag) (hu:X.A.units + 64 < cLine) (h:X.K = K':=by rfl):OpR X (compareOp .Eq) (Vn K' false):=by subst h; exact AcN hu
theorem Vw (K':PySem.W.Frag) (hu:X.A.units + 64 < cLine) (h:X.K = K':=by rfl):OpR X (compareOp .NotEq) (Vn K' true):=by subst h; exact AiX hu
theorem Agn (K':PySem.W.Frag) (hu:X.A.units + 64 < cLine) (h:X.K = K':=by rfl):OpR X (compareOp .Eq) (AdX K' false):=by subst h; exact Aib hu
theorem Fp (K':PySem.W.Frag) (h:X.K = K':=by rfl):Gw X (.builtin "len") (fun xs H Q=>∃ p ys,xs = [.ref p]/\(SqL K' H p ys\/SqT K' H p ys)/\Q (.int ys.length) H):=by subst h; exact Fw
end
end L2
set_option Elab.async false
set_option linter.all false
set_option maxRecDepth 100000
set_option maxHeartbeats 4000000
namespace L2
open PySem PySem.Spec PyProof.Rows
theorem Same.laid {H:Hp} {p:Addr} {o:HO} (h:H p = none):Same H (upd H p o):=fun q u e=>by rw [Bg (by intro z; subst z; rw [h] at e; cases e)]; exact e
def Chg (a:Addr) (H H':Hp):Prop:=∀ q o,H q = some o->q ≠ a->H' q = some o
theorem Chg.put {H:Hp} {a:Addr} {o:HO}:Chg a H (upd H a o):=fun q u e n=>by rw [Bg n]; exact e
theorem Chg.trans {a:Addr} {H H1 H2:Hp} (x:Chg a H H1) (y:Chg a H1 H2):Chg a H H2:=fun q o h n=>y q o (x q o h n) n
theorem Chg.same {a:Addr} {H H1 H2:Hp} (x:Chg a H H1) (y:Same H1 H2):Chg a H H2:=fun q o h n=>y q o (x q o h n)
theorem Same.chg {a:Addr} {H H1 H2:Hp} (x:Same H H1) (y:Chg a H1 H2) (f:H a = none):Same H H2:=fun q o h=>y q o (x q o h) (by intro z; subst z; rw [f] at h; cases h)
theorem Chg.tup {a q:Addr} {H H':Hp} {xs zs:List V} (c:Chg a H H') (ha:H a = some (.lst xs)) (h:H q = some (.tup zs)):H' q = some (.tup zs):=c q _ h (by intro z; subst z; rw [ha] at h; cases h)
section
variable {X:Cx} {es:List Expr} {t:TA} {pos:Pos}
def Abs (t:TA):TE:=fun σ H Q=>t σ H fun xs H1=>xs.length <= sizeLine/\∀ p H2,H1 p = none->Same H1 H2->H2 p = some (.tup xs)->Q (.ref p) H2
def Aa5 (t:TA):TE:=fun σ H Q=>t σ H fun xs H1=>xs.length <= sizeLine/\∀ p H2,H1 p = none->Same H1 H2->H2 p = some (.lst xs)->Q (.ref p) H2
theorem Cq {x1} (h:PA X es t):PE X (.Tuple es x1 pos) (Abs t):=by
 intro pins s σ H Q I hq
 refine wpAny_Tuple_spliced (thn (h pos pins s σ H _ I hq) fun us s1 ⟨xs,H1,I1,r,z,q⟩=>⟨by rw [<- r.length]; exact z,?_⟩)
 have hf:H1 s1.heap.objs.size = none:=I1.hok.fresh (Nat.le_refl _)
 refine ⟨.ref s1.heap.objs.size,upd H1 s1.heap.objs.size (.tup xs),I1.laid (t':=s1.toks) (fun b u e=>Heap.get?_push_of_some _ e) (Nat.le_refl _) ?_,rfl,q _ _ hf (Same.laid hf) Bk⟩
 exact ⟨z,us,r,⟨_,Heap.get?_push_size _ rfl,rfl,_,rfl⟩⟩
theorem Cp (h:PA X es t):PE X (.List es pos) (Aa5 t):=by
 intro pins s σ H Q I hq
 refine wpAny_List_spliced (thn (h pos pins s σ H _ I hq) fun us s1 ⟨xs,H1,I1,r,z,q⟩=>⟨by rw [<- r.length]; exact z,?_⟩)
 have hf:H1 s1.heap.objs.size = none:=I1.hok.fresh (Nat.le_refl _)
 refine ⟨.ref s1.heap.objs.size,upd H1 s1.heap.objs.size (.lst xs),I1.laid (t':=s1.toks) (fun b u e=>Heap.get?_push_of_some _ e) (Nat.le_refl _) ?_,rfl,q _ _ hf (Same.laid hf) Bk⟩
 exact ⟨z,us,0,r,Heap.get?_push_size _ rfl⟩
def AbV:R2:=fun x y H Q=>∃ l b xs zs,x = .ref l/\y = .ref b/\H l = some (.lst xs)/\H b = some (.lst zs)/\xs.length + zs.length <= sizeLine/\∀ p H',H p = none->Same H H'->H' p = some (.lst (xs ++ zs))->Q (.ref p) H'
theorem Fd:OpR X (binaryOp .Add) AbV:=fun pins s σ H x y v u Q I r1 r2 ⟨l,b,xs,zs,e1,e2,h1,h2,hz,q⟩=>Ai3 pins s σ H x y v u Q I r1 r2 ⟨l,b,xs,zs,e1,e2,h1,h2,hz,fun p hp=>q p _ hp (Same.laid hp) Bk⟩
def Tu:V->List V->Hp->VK->Prop:=fun x vs H Q=>∃ l xs y,x = .ref l/\vs = [y]/\H l = some (.lst xs)/\xs.length < sizeLine/\∀ H',Chg l H H'->H' l = some (.lst (xs ++ [y]))->Q .non H'
theorem Fe:MtR X "list.append" Tu:=fun pins s σ H x vs v us Q I rx rv ⟨l,xs,y,e1,e2,h1,hz,q⟩=>Wd pins s σ H x vs v us Q I rx rv ⟨l,xs,y,e1,e2,h1,hz,q _ Chg.put Bk⟩
variable {K':PySem.W.Frag}
def Aba (K:PySem.W.Frag):V->Option Int->Option Int->Hp->VK->Prop:=fun x lo hi H Q=>∃ a xs,x = .ref a/\SqL K H a xs/\∀ p H',H p = none->Same H H'->H' p = some (.lst (Gz xs lo hi))->Q (.ref p) H'
theorem Dx (K':PySem.W.Frag) (h:X.K = K':=by rfl):SlR X (Aba K'):=by
 subst h
 exact fun pins s σ H x v vl vu lo hi sl Q I rx hs pl pu ⟨a,xs,e,hx,q⟩=>Ag0 pins s σ H x v vl vu lo hi sl Q I rx hs pl pu ⟨a,xs,e,hx,fun p hp=>q p _ hp (Same.laid hp) Bk⟩
def Ajs (K:PySem.W.Frag):V->Option Int->Option Int->Hp->VK->Prop:=fun x lo hi H Q=>∃ a xs,x = .ref a/\SqT K H a xs /\
 ¬ (HT.sIx xs.length 0 lo = 0/\HT.sIx xs.length xs.length hi = xs.length)/\∀ p H',H p = none->Same H H'->H' p = some (.tup (Gz xs lo hi))->Q (.ref p) H'
theorem Agl (K':PySem.W.Frag) (h:X.K = K':=by rfl):SlR X (Ajs K'):=by
 subst h
 exact fun pins s σ H x v vl vu lo hi sl Q I rx hs pl pu ⟨a,xs,e,hx,hw,q⟩=>Ahp pins s σ H x v vl vu lo hi sl Q I rx hs pl pu ⟨a,xs,e,hx,hw,fun p hp=>q p _ hp (Same.laid hp) Bk⟩
theorem Dz (K':PySem.W.Frag) (h:X.K = K':=by rfl):Gw X (.type "list") (fun xs H Q=>∃ p ys,xs = [.ref p]/\(SqL K' H p ys\/SqT K' H p ys)/\∀ l H',H l = none->Same H H'->H' l = some (.lst ys)->Q (.ref l) H'):=by
 subst h
 exact fun pins s σ H xs us Q I r ⟨p,ys,e,hx,q⟩=>Yn pins s σ H xs us Q I r ⟨p,ys,e,hx,fun l hl=>q l _ hl (Same.laid hl) Bk⟩
end
section
variable {σ:St} {H:Hp} {Q:VK} {K:PySem.W.Frag}
theorem AhM {t:TA} (q:t σ H fun xs H1=>xs.length <= sizeLine/\∀ p H2,H1 p = none->Same H1 H2->H2 p = some (.lst xs)->Q (.ref p) H2):Aa5 t σ H Q:=q
theorem AhX {t:TA} (q:t σ H fun xs H1=>xs.length <= sizeLine/\∀ p H2,H1 p = none->Same H1 H2->H2 p = some (.tup xs)->Q (.ref p) H2):Abs t σ H Q:=q
theorem AkS {r:V->Option Int->Option Int->Hp->VK->Prop} {te:TE} {tl th:TO} (q:te σ H fun x H1=>tl σ H1 fun l H2=>th σ H2 fun u H3=>r x l u H3 Q):tSl r te tl th σ H Q:=q
theorem Ad8 {R:Option Int->Hp->Prop} (q:R none H):Vq σ H R:=q
theorem AhY {t:TE} {R:Option Int->Hp->Prop} (q:t σ H fun x H1=>∃ i,x = .int i/\R (some i) H1):Abw t σ H R:=q
theorem AjA {i:Int} {P:Int->Prop} (q:P i):∃ j,V.int i = V.int j/\P j:=⟨i,rfl,q⟩
theorem Ny {a:Addr} {xs:List V} {y:V} (h:H a = some (.lst xs)) (hl:xs.length < sizeLine) (q:∀ H',Chg a H H'->H' a = some (.lst (xs ++ [y]))->Q .non H'):Tu (.ref a) [y] H Q:=⟨a,xs,y,rfl,rfl,h,hl,q⟩
theorem Zi {a b:Addr} {xs zs:List V} (h1:H a = some (.lst xs)) (h2:H b = some (.lst zs)) (hl:xs.length + zs.length <= sizeLine) (q:∀ p H',H p = none->Same H H'->H' p = some (.lst (xs ++ zs))->Q (.ref p) H'):AbV (.ref a) (.ref b) H Q:=⟨a,b,xs,zs,rfl,rfl,h1,h2,hl,q⟩
theorem Ux {a:Addr} {xs ys:List V} {lo hi:Option Int} (h:SqL K H a xs) (e:Gz xs lo hi = ys) (q:∀ p H',H p = none->Same H H'->H' p = some (.lst ys)->Q (.ref p) H'):Aba K (.ref a) lo hi H Q:=⟨a,xs,rfl,h,by rw [e]; exact q⟩
theorem AgN {xs:List V} {n:Nat} (h:n <= xs.length):Gz xs (some (n:Int)) none = xs.drop n:=by
 unfold Gz
 rw [HT.sIx_nat,HT.sIx_none,Nat.min_eq_left h,List.take_of_length_le (by rw [List.length_drop]; omega)]
theorem Vx {xs:List V} {n:Nat}:Gz xs none (some (n:Int)) = xs.take n:=by
 unfold Gz
 rw [HT.sIx_nat,HT.sIx_none,List.drop_zero,Nat.sub_zero]
 by_cases h:n <= xs.length
 ·rw [Nat.min_eq_left h]
 ·rw [Nat.min_eq_right (by omega),List.take_length,List.take_of_length_le (by omega)]
end
def CP (J:It) (D:Addr) (g:TG) (tc:TT) (te:TE) (k:Nat) (fr:List Nat) (σ:St) (H1:Hp) (Q:VK):Prop :=
 ∃ W:Nat->Nat->Hp->Prop,(∃ m,W 0 m H1)/\∀ i m H,W i m H->(J.stop i H/\Q (.ref D) H)\/(J.go i H/\∀ x H',J.yld i H x H'->g x (compσ k fr σ) H' fun σ2 H2 =>
  σ2.drop k = (compσ k fr σ).drop k/\tc σ2 H2 fun b H3=>if b = true then te σ2 H3 (fun y H4=>∃ ys,H4 D = some (.lst ys)/\ys.length < sizeLine/\∃ m',m' < m/\W (i + 1) m' (upd H4 D (.lst (ys ++ [y])))) else ∃ m',m' < m/\W (i + 1) m' H3)
theorem Ta {σ:St} {H:Hp} {Q:VK} {wi:TI} {g:TG} {tc:TT} {te:TE} {k:Nat} {fr:List Nat} (q:wi σ H fun J H1=>∀ D,H1 D = none->CP J D g tc te k fr σ (upd H1 D (.lst [])) Q):Nz wi g tc te k fr σ H Q:=q
theorem CP.list {K:PySem.W.Frag} {σ:St} {H:Hp} {Q:VK} {D a:Addr} {g:TG} {tc:TT} {te:TE} {k:Nat} {fr:List Nat} (xs:List V) (Pv:Nat->Hp->Prop)
  (h0:Pv 0 H) (hl:∀ i H',i <= xs.length->Pv i H'->SqL K H' a xs)
  (hs:∀ i x H' (N:Hp->Prop),xs[i]? = some x->Pv i H'->(∀ H'',Pv (i + 1) H''->N H'')->g x (compσ k fr σ) H' fun σ2 H2=>σ2.drop k = (compσ k fr σ).drop k/\tc σ2 H2 fun b H3 =>
   if b = true then te σ2 H3 (fun y H4=>∃ ys,H4 D = some (.lst ys)/\ys.length < sizeLine/\N (upd H4 D (.lst (ys ++ [y])))) else N H3)
  (hd:∀ H',Pv xs.length H'->Q (.ref D) H'):CP (Itl K a) D g tc te k fr σ H Q:=Ab2 Pv h0 hl hs hd
theorem CP.range {σ:St} {H:Hp} {Q:VK} {D:Addr} {lo:Int} {n:Nat} {g:TG} {tc:TT} {te:TE} {k:Nat} {fr:List Nat} (Pv:Nat->Hp->Prop) (h0:Pv 0 H)
  (hs:∀ i H' (N:Hp->Prop),i < n->Pv i H'->(∀ H'',Pv (i + 1) H''->N H'')->g (.int (lo + i)) (compσ k fr σ) H' fun σ2 H2=>σ2.drop k = (compσ k fr σ).drop k/\tc σ2 H2 fun b H3 =>
   if b = true then te σ2 H3 (fun y H4=>∃ ys,H4 D = some (.lst ys)/\ys.length < sizeLine/\N (upd H4 D (.lst (ys ++ [y])))) else N H3)
  (hd:∀ H',Pv n H'->Q (.ref D) H'):CP (Itr lo n) D g tc te k fr σ H Q:=Abp Pv h0 hs hd
def Yw (e:Addr->Bool):V->Bool
 | .ref p=>e p
 | _=>false
def AbL (e:Addr->Bool):Value->Bool
 | .ref p=>e p
 | _=>false
theorem Yz {e:Addr->Bool}:∀ {xs:List V} {us:List Value},Vals xs us->(∀ x ∈ xs,∃ p,x = V.ref p)->us.any (AbL e) = xs.any (Yw e)
 | _,_,.nil,_=>rfl
 | y :: xs,u :: us,.cons r t,f=>by
  obtain ⟨p,rfl⟩:=f y List.mem_cons_self
  cases r
  rw [List.any_cons,List.any_cons,Yz t fun x hx=>f x (List.mem_cons_of_mem _ hx)]
  rfl
theorem AeK {xs:List V} {us:List Value} (r:Vals xs us):∀ u ∈ us,∃ x ∈ xs,RelV x u:=by
 induction r with
 | nil=>intro u hu; cases hu
 | cons r t ih =>
  intro u hu
  rcases List.mem_cons.mp hu with e | hu
  ·subst e; exact ⟨_,List.mem_cons_self,r⟩
  ·obtain ⟨x,hx,rx⟩:=ih u hu
   exact ⟨x,List.mem_cons_of_mem _ hx,rx⟩
def AhG (K:PySem.W.Frag) (neg:Bool):R2:=fun x y H Q=>∃ p xs e,y = .ref p/\SqL K H p xs/\(∀ x ∈ xs,∃ r,x = V.ref r)/\(∀ r,V.ref r ∈ xs->EqD K H 40 (.ref r) x (e r))/\Q (.bl (if neg then !(xs.any (Yw e)) else xs.any (Yw e))) H
theorem Xc {X:Cx} (hu:X.A.units + 64 < cLine):OpR X (compareOp .NotIn) (AhG X.K true):=by
 intro pins s σ H x y v u Q I rx ry h
 obtain ⟨p,xs,e,rfl,hq,fr,he,q⟩:=h
 cases ry
 obtain ⟨its,r,pl,hz⟩:=I.list hq
 refine SeqAt.notIn_listAt (AbL e) pl.isList (fun w hw=>?_) ⟨.bl _,H,I,rfl,?_⟩
 ·obtain ⟨z,hz,rz⟩:=AeK r w (by simpa using hw)
  obtain ⟨a,rfl⟩:=fr z hz
  have:=(he a hz).at I (A:=X.A.in1) (by rw [Jj]; omega) rz rx
  cases rz
  exact this
 ·rw [show its.toArray.any (AbL e) = its.any (AbL e) by simp,Yz r fr]
  exact q
end L2
set_option Elab.async false
set_option linter.all false
set_option maxRecDepth 100000
set_option maxHeartbeats 4000000
namespace L2
open PySem PySem.Spec PyProof.Rows
theorem Se:∀ {ns:List Int} {us:List Value},IntsAre us ns->Vals (ns.map V.int) us
 | _,_,.nil=>.nil
 | _,_,.cons n t h=>.cons ⟨t,rfl⟩ (Se h)
section
variable {X:Cx}
theorem Acl {P:Program} {w:World} {kvs:List (Key × Value)} {ks:List Int} (hk:kvs.map (·.1) = ks.map Sum.inl):∀ {vs:List Value},vs.length = kvs.length->(∀ (j:Nat) (v:Value),vs[j]? = some v->∃ k x,kvs[j]? = some (k,x)/\(Cs P w).is k v = true)->IntsAre vs ks:=by
 induction kvs generalizing ks with
 | nil =>
  intro vs hl _
  cases ks with
  | nil=>cases vs with
   | nil=>exact .nil
   | cons _ _=>simp at hl
  | cons _ _=>simp at hk
 | cons kv r ih =>
  intro vs hl h
  cases ks with
  | nil=>simp at hk
  | cons n ks =>
   cases vs with
   | nil=>simp at hl
   | cons v vs =>
    obtain ⟨e1,e2⟩:=List.cons.inj (show kv.1 :: r.map (·.1) = Sum.inl n :: ks.map Sum.inl from hk)
    obtain ⟨k,x,hx,hi⟩:=h 0 v rfl
    cases hx
    have e1':k = Sum.inl n:=e1
    subst e1'
    have rv:=Vu (k:=Sum.inl n) hi
    obtain ⟨t,rfl⟩:=(show ∃ t,v = Value.int n t from rv)
    exact .cons n t (ih e2 (by simpa using hl) fun j u hu=>h (j + 1) u (by simpa using hu))
theorem Adt {prog:Program} {w:World} {A:Around} {E:Value->Shared->Prop} {s:Shared} {T:String} {r d:Addr} {n:Nat} {P:Nat->Value->Prop} {OK:Heap->Prop} {R:List Value->Shared->Prop} (src:PySem.W.KdlSrc prog w T r d n P OK) (hh:A.handled = none) (hok:OK s.heap) (hn:n <= sizeLine)
  (fin:∀ (h2:Heap) (tk:Nat) (acc:Array Value),s.heap.objs.size < h2.objs.size->(∀ b o,s.heap.get? b = some o->h2.get? b = some o)->ItemsOf P acc n->R acc.toList { s with heap:=h2,toks:=tk }) :
  wpAny (model prog w) A (collect (.ref r)) R E s:=by
 have lt:=src.there _ hok
 let s1:Shared:={ s with heap:=s.heap.push { cls:=.type "list",data:=.seq ([]:List Value).toArray } }
 have at1:s1.heap.get? s.heap.objs.size = some { cls:=.type "list",data:=.seq #[] }:=Heap.get?_push_size _ rfl
 have ok1:OK s1.heap:=src.keep _ _ hok fun b _ o e=>Heap.get?_push_of_some _ e
 have run:=PySem.W.kdl_extend (A:=A) (s:=s1) (R:=fun q s'=>∃ h2 tk acc,∃ c:Nat,q = .ok (.ret (.ref s.heap.objs.size))/\s' = { s with heap:=h2,toks:=tk }/\(∀ b o,s.heap.get? b = some o->h2.get? b = some o) /\
   h2.get? s.heap.objs.size = some { cls:=.type "list",dict:=none,data:=.seq acc c,slots:=#[] }/\ItemsOf P acc n) src hh ok1 s.heap.objs.size (Nat.ne_of_gt lt.1) (Nat.ne_of_gt lt.2) (.ref s.heap.objs.size) 0 at1
  (fun h2 tk acc c kp at2 it=>⟨h2,tk,acc,c,rfl,rfl,fun b o e=>kp b o (Nat.ne_of_lt (Heap.lt_size e)) (Heap.get?_push_of_some _ e),at2,it⟩) hn
 have done:∀ h2 tk (acc:Array Value) (c:Nat),(∀ b o,s.heap.get? b = some o->h2.get? b = some o)->h2.get? s.heap.objs.size = some { cls:=.type "list",dict:=none,data:=.seq acc c,slots:=#[] }->ItemsOf P acc n->R acc.toList { s with heap:=h2,toks:=tk }:=fun h2 tk acc c kp at2 it=>fin h2 tk acc (Heap.lt_size at2) kp it
 unfold collect
 refine wpAny_bind (wpAny_runValue (codeAny_builtin entry_proto_collect' ?_))
 rw [Around.under_plainId PySem.F.plain_proto_collect _]
 refine wpAny_bind (wpAny_newObj_type ?_)
 refine wpAny_pure ⟨plainId_quiet PySem.F.plain_list_iadd _,codeAny_builtin entry_list_iadd' ?_⟩
 rw [Around.under_plainId PySem.F.plain_list_iadd _]
 refine wpAny_mono run (fun f s' z=>?_) fun e s' z=>?_
 ·cases f with
  | done f =>
   obtain ⟨h2,tk,acc,c,e,rfl,kp,at2,it⟩:=z
   cases e
   exact wpAny_bind (wpAny_load at2 (wpAny_pure (done h2 tk acc c kp at2 it)))
  | again c1 =>
   refine ⟨z.1,codeAny_mono z.2 fun q s2 y=>?_⟩
   obtain ⟨h2,tk,acc,c,rfl,rfl,kp,at2,it⟩:=y
   exact wpAny_bind (wpAny_load at2 (wpAny_pure (done h2 tk acc c kp at2 it)))
 ·obtain ⟨_,_,_,_,e',_⟩:=z
  cases e'
theorem Rq (hh:X.A.handled = none):Gw X (.builtin "sorted") (fun xs H Q=>∃ (d:Addr) (kvs:List (Key × V)) (ks:List Int),xs = [.ref d]/\H d = some (.dK kvs)/\kvs.map (·.1) = ks.map Sum.inl/\kvs.length < 64/\∀ (l:Addr) (H':Hp) (ns':List Int),H l = none->Same H H'->H' l = some (.lst (ns'.map V.int))->ns'.Perm ks->ns'.Pairwise (· <= ·)->Q (.ref l) H'):=by
 intro pins s σ H xs us Q I r h
 obtain ⟨d,kvs,ks,rfl,hd,hk,hl,q⟩:=h
 obtain ⟨u,rfl,rx⟩:=Sv r
 cases rx
 obtain ⟨_,hm,vs,rv,hD⟩:=(show ObjOk X.prog X.w H s.heap d (.dK kvs) from I.hok d _ hd)
 obtain ⟨ep,hat⟩:=hD.dictAt
 have hlv:kvs.length = vs.length:=Paired.length rv
 refine Calls.call_function_entry kind_sorted plain_sorted entry_sorted (args_sorted1 _) ?_
 unfold Builtin.«sorted»
 refine wpAny_bind (m:=checkCount "sorted" 1 1 _) (wpAny_pure ?_)
 refine wpAny_bind (Adt (A:=X.A.in1) (PySem.W.kdl_dict (knd:=Cs X.prog X.w) (kvs:=vs) (ep:=ep) hm) hh hat (Nat.le_of_lt (Jf (by omega))) fun h' tk acc hsz kp hacc=>?_)
 have hla:acc.toList.length = vs.length:=by rw [Array.length_toList]; exact hacc.1
 have hi:IntsAre acc.toList ks:=Acl (P:=X.prog) (w:=X.w) (kvs:=vs) (by rw [<- KV.keys rv]; exact hk) hla fun j v e=>by
  obtain ⟨k,x,h1,h2⟩:=hacc.2 j v (by rw [<- Array.getElem?_toList]; exact e)
  exact ⟨k,x,h1,h2⟩
 refine wpAny_bind (wpAny_newList ?_ (by rw [hla]; exact Nat.le_of_lt (Jf (by omega))))
 have hoL:(h'.push { cls:=.type "list",data:=.seq acc.toList.toArray }).get? h'.objs.size = some (seqObj "list" acc.toList.toArray 0):=Heap.get?_push_size _ rfl
 refine wpAny_bind (wpAny_holding (wpAny_call_entry slot_list_sort ⟨_,hoL,rfl⟩ entry_list_sort (list_sort_tree hoL hi (by omega) fun out ns' a1 a2 a3=>⟨_,rfl,?_⟩) (args_list_sort _)))
 refine wpAny_pure ⟨_,rfl,?_⟩
 obtain ⟨e,he⟩:=sortedHeap_at (out:=out) hoL
 have hf:H h'.objs.size = none:=I.hok.fresh (Nat.le_of_lt hsz)
 have hl':(ns'.map V.int).length <= sizeLine:=by
  have:ks.length = kvs.length:=by rw [<- List.length_map (f:=(Sum.inl:Int->Key)),<- hk,List.length_map]
  rw [List.length_map,a2.length_eq]; exact Nat.le_of_lt (Jf (by omega))
 refine ⟨.ref h'.objs.size,upd H h'.objs.size (.lst (ns'.map V.int)),I.laid (t':=tk) (fun b o hb=>?_) (Nat.le_of_lt hsz) ⟨hl',out.toList,e,Se a1,by rw [Array.toArray_toList]; exact he⟩,rfl,q _ _ ns' hf (Same.laid hf) Bk a2 a3⟩
 have hb2:=kp _ _ hb
 have hlt:=Heap.lt_size hb2
 rw [sortedHeap_old (Nat.ne_of_lt hlt) (by rw [size_push']; exact Nat.lt_succ_of_lt hlt),Heap.get?_push_ne _ _ _ (Nat.ne_of_lt hlt)]
 exact hb2
end
section
variable {X:Cx}
end
end L2
set_option Elab.async false
set_option linter.all false
set_option maxRecDepth 100000
set_option maxHeartbeats 4000000
namespace L2
open PySem PySem.Spec PyProof.Rows
structure Lft (fs xs:List Addr) (h h':Heap):Prop where
 keep:∀ b o,h.get? b = some o->b ∉ xs->b ∉ fs->h'.get? b = some o
 slot:∀ b o,h.get? b = some o->b ∉ xs->∃ sl,h'.get? b = some { o with slots:=sl }
def Trk (T e:Addr) (cls:Value) (h:Heap):Prop :=
 ∃ oe vs oT ts,h.get? e = some oe/\oe.cls = cls/\oe.dict = none/\oe.data = .fields vs/\vs[1]? = some (.ref T)/\T ≠ e/\h.get? T = some oT/\oT.data = .fields ts/\ts[3]? = some .none
theorem Obj.dict_mapFields (f:Array Value->Array Value) (o:Obj):(o.mapFields f).dict = o.dict:=by
 unfold Obj.mapFields
 split <;> rfl
section
variable {M:Model} {A:Around} {E:Value->Shared->Prop} {s:Shared} {base:Heap} {env:Env} {outer:List Env} {L e:Addr} {Q:Unit->Shared->Prop}
theorem Uj {oe:Obj} {vs:Array Value} {hd0:Value} {nx:Bool} (ha:A.frames = some (env :: outer)) (ff:s.heap.FunFrames base (env :: outer)) (hL:env.frame = some L) (ge:s.heap.get? e = some oe) (dn:oe.dict = none) (de:oe.data = .fields vs) (n1:1 < vs.size)
  (q:∀ h' T,s.heap.objs.size <= T->Lft (frs (env :: outer)) [e] s.heap h'->Trk T e oe.cls h'->Q () { s with heap:=h' }) :
  wpAny M A (do let a <- frameOf env; let pl <- entryPlaceOf L nx; let b <- EntryCells.newEntry hd0 a .none (rawInt L) .none pl; setField (.ref e) 1 b) (fun _ s'=>wpAny M A (setFlight (.ref e) none) Q E s') E s:=by
 have out:e ∉ frs (env :: outer):=fun z=>by
  obtain ⟨_,o,go,nf⟩:=ff.mem z
  rw [ge] at go
  cases go
  exact nf vs de
 refine wpAny_bind (wpAny_frameOf_fun ha ff hL fun k sk=>?_)
 refine wpAny_bind (wpAny_entryPlaceOf fun pl ip=>?_)
 unfold EntryCells.newEntry; unfold newFields
 refine wpAny_bind (wpAny_newObj_type ?_ (ip.sizeOk5 _ _ _ _ _))
 have gk:k.get? e = some oe:=(sk.2.1 e out).trans ge
 generalize hob:({ cls:=.type "traceback",dict:=none,data:=.fields ([hd0,.ref L,.none,rawInt L,.none] ++ (if pl.isEmpty then List.replicate 6 Value.none else pl)).toArray }:Obj) = ob
 have dob:ob.data = .fields ([hd0,.ref L,.none,rawInt L,.none] ++ (if pl.isEmpty then List.replicate 6 Value.none else pl)).toArray:=by rw [<- hob]
 have g2:=Heap.get?_push_of_some (h:=k) ob gk
 refine wpAny_setField g2 de n1 ?_
 have nTe:k.objs.size ≠ e:=Nat.ne_of_gt (Heap.lt_size gk)
 have d3:=Obj.data_mapFields de (·.setIfInBounds 1 (Value.ref k.objs.size))
 have g3:=Heap.get?_update_self (Obj.mapFields (·.setIfInBounds 1 (Value.ref k.objs.size))) g2 (Obj.isFreed_of_fields d3)
 have t2:(k.push ob).get? k.objs.size = some ob:=Heap.get?_push_size k (by rw [<- hob]; rfl)
 have t3:=(Heap.get?_update_other (k.push ob) (Obj.mapFields (·.setIfInBounds 1 (Value.ref k.objs.size))) nTe.symm).trans t2
 unfold setFlight
 refine wpAny_bind (wpAny_field g3 d3 (x:=.ref k.objs.size) (by simp [n1]) ?_)
 rw [if_pos (by simp)]
 have n3:3 < ([hd0,.ref L,.none,rawInt L,.none] ++ (if pl.isEmpty then List.replicate 6 Value.none else pl)).toArray.size:=by simp only [List.size_toArray,List.length_append,List.length_cons,List.length_nil]; omega
 refine wpAny_setField t3 dob n3 (q _ k.objs.size ?_ ⟨fun b o gb nb fb=>?_,fun b o gb nb=>?_⟩ ?_)
 ·exact Nat.le_of_eq sk.1.symm
 ·have gb':k.get? b = some o:=(sk.2.1 b fb).trans gb
  rw [Heap.get?_update_other _ _ (Nat.ne_of_gt (Heap.lt_size gb')),Heap.get?_update_other _ _ (fun z=>nb (by rw [z]; exact List.mem_cons_self))]
  exact Heap.get?_push_of_some _ gb'
 ·obtain ⟨sl,gb'⟩:=sk.2.2 b o gb
  refine ⟨sl,?_⟩
  rw [Heap.get?_update_other _ _ (Nat.ne_of_gt (Heap.lt_size gb')),Heap.get?_update_other _ _ (fun z=>nb (by rw [z]; exact List.mem_cons_self))]
  exact Heap.get?_push_of_some _ gb'
 ·refine ⟨_,_,_,_,(Heap.get?_update_other _ _ nTe).trans g3,Obj.cls_mapFields _ _,(Obj.dict_mapFields _ _).trans dn,d3,by simp [n1],nTe,Heap.get?_update_self _ t3 (Obj.isFreed_of_fields (Obj.data_mapFields dob _)),Obj.data_mapFields dob _,?_⟩
  simp
theorem Aad {oe:Obj} {vs:Array Value} (ha:A.frames = some (env :: outer)) (ff:s.heap.FunFrames base (env :: outer)) (hL:env.frame = some L) (ge:s.heap.get? e = some oe) (dn:oe.dict = none) (de:oe.data = .fields vs) (v1:vs[1]? = some .none)
  (q:∀ h' T,s.heap.objs.size <= T->Lft (frs (env :: outer)) [e] s.heap h'->Trk T e oe.cls h'->Q () { s with heap:=h' }):wpAny M A (noteFrame (.ref e) env) (fun _ s'=>wpAny M A (setFlight (.ref e) none) Q E s') E s:=by
 unfold noteFrame
 simp only [hL]
 refine wpAny_bind (wpAny_field ge de v1 ?_)
 rw [if_neg (by decide)]
 exact Uj ha ff hL ge dn de (Array.getElem?_eq_some_iff.mp v1).1 q
theorem Uv {T0:Addr} {cls:Value} (ha:A.frames = some (env :: outer)) (ff:s.heap.FunFrames base (env :: outer)) (hL:env.frame = some L) (tr:Trk T0 e cls s.heap)
  (q:∀ h' T,s.heap.objs.size <= T->Lft (frs (env :: outer)) [e,T0] s.heap h'->Trk T e cls h'->Q () { s with heap:=h' }):wpAny M A (noteFrame (.ref e) env) (fun _ s'=>wpAny M A (setFlight (.ref e) none) Q E s') E s:=by
 obtain ⟨oe,vs,oT,ts,ge,rfl,dn,de,v1,nTe,gT,dT,t3⟩:=tr
 unfold noteFrame
 simp only [hL]
 refine wpAny_bind (wpAny_field ge de v1 ?_)
 rw [if_pos (by simp)]
 refine wpAny_bind (wpAny_field gT dT t3 ?_)
 rw [if_neg (by simp [rawInt])]
 refine wpAny_bind (wpAny_setField gT dT (Array.getElem?_eq_some_iff.mp t3).1 ?_)
 have oth:∀ b,b ≠ T0->(s.heap.update T0 (Obj.mapFields (·.setIfInBounds 3 Value.none))).get? b = s.heap.get? b:=fun b nb=>Heap.get?_update_other _ _ nb.symm
 have nrec:∀ b o,s.heap.get? b = some o->(∀ us,o.data ≠ .fields us)->b ≠ T0:=fun b o gb nf z=>by
  rw [z,gT] at gb
  cases gb
  exact nf ts dT
 have sz:(s.heap.update T0 (Obj.mapFields (·.setIfInBounds 3 Value.none))).objs.size = s.heap.objs.size:=by simp [Heap.update]
 refine Uj (s:={ s with heap:=s.heap.update T0 (Obj.mapFields (·.setIfInBounds 3 Value.none)) }) ha (ff.of_keeps fun b o gb nf=>⟨o,(oth b (nrec b o gb nf)).trans gb,rfl⟩) hL ((oth e nTe.symm).trans ge) dn de (Array.getElem?_eq_some_iff.mp v1).1 fun h' T hT lf tk=>q h' T (by rw [<- sz]; exact hT) ⟨fun b o gb nb fb=>?_,fun b o gb nb=>?_⟩ tk
 ·exact lf.keep b o ((oth b fun z=>nb (by rw [z]; exact List.mem_cons_of_mem _ List.mem_cons_self)).trans gb) (fun z=>nb (by rw [List.mem_singleton.mp z]; exact List.mem_cons_self)) fb
 ·exact lf.slot b o ((oth b fun z=>nb (by rw [z]; exact List.mem_cons_of_mem _ List.mem_cons_self)).trans gb) fun z=>nb (by rw [List.mem_singleton.mp z]; exact List.mem_cons_self)
end
section
variable {P:Program} {w:World} {H:Hp} {h h':Heap} {a:Addr} {o:HO}
theorem ObjOk.obj (x:ObjOk P w H h a o):∃ ob,h.get? a = some ob:=by
 cases o with
 | lst xs=>obtain ⟨_,_,_,_,e⟩:=x; exact ⟨_,e⟩
 | tup xs=>obtain ⟨_,_,_,_,e,_⟩:=x; exact ⟨_,e⟩
 | dK kvs=>obtain ⟨_,_,_,_,_,_,_,e,_⟩:=x; exact ⟨_,e⟩
 | dT kvs=>obtain ⟨_,_,_,_,_,_,_,e,_⟩:=x; exact ⟨_,e⟩
 | set S n=>obtain ⟨_,_,_,_,e,_⟩:=x; exact ⟨_,e⟩
 | ins C dx fs=>obtain ⟨_,_,_,e,_⟩:=x; exact ⟨_,e⟩
 | own y=>obtain ⟨_,e⟩:=x; exact ⟨_,e⟩
 | xd fs=>obtain ⟨_,⟨_,_,_,e,_⟩,_⟩:=x; exact ⟨_,e⟩
 | rng lo hi=>obtain ⟨_,_,_,e⟩:=x; exact ⟨_,e⟩
 | frz ob u=>exact ⟨_,x.1⟩
 | tbl ps=>exact ⟨_,x⟩
 | met f y=>exact ⟨_,x⟩
 | ext φ=>exact x.2.1
theorem HOk.none_of (x:HOk P w H h) (e:h.get? a = none):H a = none:=by
 cases q:H a with
 | none=>rfl
 | some u =>
  obtain ⟨ob,z⟩:=(x a u q).obj
  rw [e] at z; cases z
end
def CX1 (P:Program) (w:World):CXT:=fun outer H s E e s'=>∃ x T C H',e = .ref x/\Trk T x (.ref C) s'.heap/\s.heap.get? x = none/\s.heap.get? T = none/\H' x = none/\H' T = none /\
 s'.os = s.os/\AllBare s'.gens/\Un (frs outer) [] H H' s.heap s'.heap/\HOk P w H' s'.heap/\E (.ref C) none H'
section
variable {P:Program} {w:World} {K:PySem.W.Frag} {mg:Str->Option Value} {base:Heap} {N:List Str} {qual:Str} {scope:Scope} {f:Addr} {cd:Value} {A:Around} {outer:List Env} {s0:Shared} {H0:Hp} {E:XK}
theorem AcU {pins:List (Addr × Obj)} {σ:St} {H:Hp} {s:Shared} {x T C:Addr} {xs:List Addr} {h':Heap} (I:Inv (Ju (CX1 P w) P w K mg base N qual scope f cd A outer s0 H0 E) pins σ H s)
  (lf:Lft (frs (envOfC qual scope s0.heap.objs.size f cd :: outer)) xs s.heap h') (hxs:∀ y ∈ xs,s0.heap.get? y = none/\H y = none) (hx:x ∈ xs) (tk:Trk T x (.ref C) h') (hT:s.heap.objs.size <= T) (hE:E (.ref C) none H) :
  CX1 P w outer H0 s0 E (.ref x) { s with heap:=h' }:=by
 have old:∀ b o,s0.heap.get? b = some o->b ∉ xs:=fun b o e z=>by rw [(hxs b z).1] at e; cases e
 have trk:∀ b u,H b = some u->b ∉ xs:=fun b u e z=>by rw [(hxs b z).2] at e; cases e
 have nfr:∀ b o,s0.heap.get? b = some o->b ∉ frs outer->b ∉ frs (envOfC qual scope s0.heap.objs.size f cd :: outer):=fun b o e n z=>by
  rcases List.mem_cons.mp (I.stkSub b z) with q | q
  ·have:=Heap.lt_size e
   rw [q] at this
   exact Nat.lt_irrefl _ this
  ·exact n q
 have ne0:∀ b:Addr,b ∉ ([]:List Addr):=fun b z=>by cases z
 refine ⟨x,T,C,H,rfl,tk,(hxs x hx).1,Heap.get?_none_of_le (Nat.le_trans I.sz hT),(hxs x hx).2,I.hok.fresh hT,I.os,I.bare,⟨fun b o e n nf _=>?_,fun b o e n hf _=>?_,fun b o e n z=>I.base.free b o e n z,fun b o e _=>?_,I.base.tups,I.base.frzs,I.base.tbls⟩,fun b u e=>?_,hE⟩
 ·exact lf.keep b o (I.base.keep b o e n nf (ne0 b)) (old b o e) (nfr b o e nf)
 ·obtain ⟨sl,z⟩:=I.base.slot b o e n hf (ne0 b)
  obtain ⟨sl',z'⟩:=lf.slot b _ z (old b o e)
  exact ⟨sl',z'⟩
 ·obtain ⟨o',z⟩:=I.base.there b o e (ne0 b)
  obtain ⟨sl',z'⟩:=lf.slot b _ z (old b o e)
  exact ⟨_,z'⟩
 ·refine (I.hok b u e).stay (fun c v hc q'=>?_) (fun _ q'=>q') fun _ _ q'=>q'
  have hc':∃ u',H c = some u':=by
   rcases hc with z | z
   ·exact ⟨u,by rw [z]; exact e⟩
   ·exact ⟨_,z⟩
  obtain ⟨u',hu⟩:=hc'
  exact lf.keep c v q' (trk c u' hu) fun z=>by rw [I.stkFree c z] at hu; cases hu
theorem Bs:Ov (CX1 P w) (Ju (CX1 P w) P w K mg base N qual scope f cd A outer s0 H0 E) E:=by
 intro pins σ H s e s' I hc
 obtain ⟨x,T,C,H',rfl,tk,gx,gT,nx,nT,os,bare,un,hok,hE⟩:=hc
 obtain ⟨hh,g,d,t,os'⟩:=s'
 obtain rfl:os' = s.os:=os
 have I':=I.call (h':=hh) (g':=g) (d':=d) (t':=t) (ch:=[]) un hok bare (fun b z=>absurd z (by simp))
 have old:∀ y,s.heap.get? y = none->s0.heap.get? y = none:=fun y e=>by
  cases q:s0.heap.get? y with
  | none=>rfl
  | some o =>
   obtain ⟨o',z⟩:=I.base.there y o q (fun z=>by cases z)
   rw [e] at z; cases z
 show wpAny _ _ (leaving (envOfC qual scope s0.heap.objs.size f cd) (.ref x)) _ _ _
 unfold leaving
 refine wpAny_bind (Uv (base:=base) (outer:=outer) (L:=s0.heap.objs.size) I'.ok.frames I'.stack rfl tk fun h' T' hT' lf tk'=>?_)
 exact AcU I' lf (fun y hy=>by
  rcases List.mem_cons.mp hy with q | q
  ·rw [q]; exact ⟨old _ gx,nx⟩
  ·rw [List.mem_singleton.mp q]; exact ⟨old _ gT,nT⟩) List.mem_cons_self tk' hT' hE
end
theorem Yt {K:PySem.W.Frag} {h:Heap} {mg:Str->Option Value} {x:Str} {C:Addr} {bmB:List Value} {newId:String} (X:K.In h) (b:mg x = some (.ref C)) (q:PySem.W.excIn K C bmB newId = true):OwnCls x C bmB newId mg h:=by
 refine ⟨b,?_⟩
 unfold PySem.W.excIn at q
 split at q
 ·rename_i d1 c1 s1 l1
  split at q
  ·rename_i C2 m2 z0 z1 z2 z3 nw z5 e1 e2
   simp only [beq_iff_eq,Bool.and_eq_true,Bool.not_eq_true'] at q
   obtain ⟨⟨⟨⟨⟨a1,a2⟩,a3⟩,a4⟩,a5⟩,a6⟩:=q
   subst a1 a2
   obtain ⟨n1,b1,mr,nsp,qn,hd,sn,sub,ab,col,del⟩:=c1
   dsimp only at e1 a3 a5 a6
   subst e1 a3
   have es:s1 = #[z0,z1,z2,z3,some (.builtin nw),z5]:=by
    obtain ⟨ls⟩:=s1
    dsimp only at e2
    rw [e2]
   subst es
   exact ⟨m2,nsp,n1,qn,b1,hd,sn,sub,ab,col,d1,z0,z1,z2,z3,z5,_,X _ _ l1,.of_isNs (PySem.W.isNs_of_in X a5),PySem.W.nsMap_none_of_in X a5 a6,PySem.W.tail_of_in X a4⟩
  ·cases q
 ·cases q
def AdO (C:Addr) (E:XK) (t:TA):TS:=fun _ σ H=>t σ H fun vs H1=>vs.length <= sizeLine/\E (.ref C) none H1
section
variable {P:Program} {w:World} {K:PySem.W.Frag} {mg:Str->Option Value} {base:Heap} {N:List Str} {qual:Str} {scope:Scope} {f:Addr} {cd:Value} {A:Around} {outer:List Env} {s0:Shared} {H0:Hp} {E:XK}
theorem Jt {x:Str} {C:Addr} {B newId initId:String} {bmB:List Value} {np cpos pos:Pos} {e:Expr} {es:List Expr} {t:TA} (FB:ExcBaseFacts B newId initId bmB) (q:PySem.W.excIn K C bmB newId = true) (hm:mg x = some (.ref C)) (hh:A.handled = none)
  (hg:Gl (Ju (CX1 P w) P w K mg base N qual scope f cd A outer s0 H0 E) x) (ha:PA (Ju (CX1 P w) P w K mg base N qual scope f cd A outer s0 H0 E) (e :: es) t)
  (hdb:(x == ("__debug__" : Str)) = false:=by decide)
  (he:starEach (e :: es) (envOfC qual scope s0.heap.objs.size f cd) = (false,eval e (envOfC qual scope s0.heap.objs.size f cd)) :: starEach es (envOfC qual scope s0.heap.objs.size f cd):=by rfl)
  (hpl:(backTo cpos (starEach es (envOfC qual scope s0.heap.objs.size f cd))).any (·.1) = false:=by rfl) :
  PS (Ju (CX1 P w) P w K mg base N qual scope f cd A outer s0 H0 E) (.Raise (some (.Call (.Name x np) (e :: es) [] cpos)) none pos) (AdO C E t):=by
 intro pins s σ H D I h
 have O:OwnCls x C bmB newId mg base:=Yt I.ok.mod.kin hm q
 obtain ⟨tl,N',nm,qn,bs,hdct,sn,sub,ab,col,dd,k0,k1,k2,k3,k5,mN,hC,hN,hni,T⟩:=O.obj
 refine wpAny_Raise_call_subT (C:=C) (nm:=nm) (q:=qn) (N:=N') (bs:=bs) (bm:=tl) (hdct:=hdct) (sn:=sn) (sub:=sub) (ab:=ab) (col:=col) (dd:=dd) (k0:=k0) (k1:=k1) (k2:=k2) (k3:=k3) (k5:=k5) FB (mN:=mN) (T.hasType FB.hasBase) hh (by
  show (backTo cpos (starEach (e :: es) (envOfC qual scope s0.heap.objs.size f cd))).any (·.1) = false
  rw [he]
  show (false || (backTo cpos (starEach es (envOfC qual scope s0.heap.objs.size f cd))).any (·.1)) = false
  rw [hpl]; rfl) hni (Ng I hg hm ⟨rfl,?_⟩ hdb)
 have ha':=ha cpos pins s σ H _ I h
 show wpAny _ _ (evalArgs (.ref C) true (backTo cpos (starEach (e :: es) (envOfC qual scope s0.heap.objs.size f cd))) []) _ _ _
 have ha2:wpAny (model P w) (A.deeper (envOfC qual scope s0.heap.objs.size f cd)) (spliced (backTo cpos (starEach (e :: es) (envOfC qual scope s0.heap.objs.size f cd)))) _ _ s:=ha'
 rw [he] at ha2 ⊢
 refine Calls.evalArgs_plain (thn ha2 fun us s1 z=>?_)
 obtain ⟨vs,H1,I1,r,z1,z2⟩:=z
 refine ⟨rfl,by rw [<- r.length]; exact z1,I1.bk _ _ hC,hN.keeps I1.bk,T.keeps I1.bk,fun h' ex mk=>?_⟩
 obtain ⟨tt,ge,_,_⟩:=mk.there
 have I2:Inv (Ju (CX1 P w) P w K mg base N qual scope f cd A outer s0 H0 E) pins σ H1 { s1 with heap:=h' }:=Inv.call I1 (h':=h') (g':=s1.gens) (d':=s1.drawn) (t':=s1.toks) (ch:=[]) (Un.kept mk.keeps) (I1.hok.kept mk.keeps) I1.bare (fun b z=>absurd z (by simp))
 have old:s0.heap.get? ex = none:=by
  cases q:s0.heap.get? ex with
  | none=>rfl
  | some o =>
   obtain ⟨o',z⟩:=I1.base.there ex o q (fun z=>by cases z)
   rw [mk.new] at z; cases z
 show wpAny _ _ (leaving (envOfC qual scope s0.heap.objs.size f cd) (.ref ex)) _ _ _
 unfold leaving
 refine wpAny_bind (Aad (base:=base) (outer:=outer) (L:=s0.heap.objs.size) I2.ok.frames I2.stack rfl ge rfl rfl rfl fun h'' T' hT' lf tk'=>?_)
 exact AcU I2 lf (fun y hy=>by rw [List.mem_singleton.mp hy]; exact ⟨old,I1.hok.none_of mk.new⟩) List.mem_cons_self tk' hT' z2
end
theorem Fun.ok1 {P:Program} {w:World} {K:PySem.W.Frag} {mg:Str->Option Value} {base:Heap} {x qual:Str} {st:Stmt} {f:Addr} {fd:FuncData} {N ps:List Str} {k:Nat} {sp:Sp} (F:Fun K x qual st f fd) (S:Ca N ps (Bd st)) (len:∀ vs H Q E,sp vs H Q E->vs.length = ps.length)
  (hbody:∀ (cdv:Value) (A:Around) (outer:List Env) (s:Shared) (H:Hp) (vs:List V) (Q:VK) (E:XK),Room k (A.deeper (envOfC qual (Bd st) s.heap.objs.size f cdv))->sp vs H Q E ->
   ∃ t,PSs (Ju (CX1 P w) P w K mg base N qual (Bd st) f cdv A outer s H E) (Bi st) t/\t { nx:=fun _ H'=>Q .non H',rt:=Q } (Nx N vs) H):FnOk P w K mg base (CX1 P w) (k + 1) f fd ps sp:=by
 obtain ⟨oc,od,kV,doc,pm,an,cdv,ct,osl,rfl,lk,hcd⟩:=F.ex
 exact Aj5 lk hcd S len fun A outer s H vs Q E hr hsp=>hbody cdv A outer s H vs Q E hr hsp
def Nw (X:Cx) (pins:List (Addr × Obj)) (b:Addr):Prop:=X.s₀.heap.get? b = none/\b ≠ X.env.locals/\(∀ y c,X.env.cells.lookup y = some c->c ≠ b)/\∀ p ∈ X.pn ++ pins,p.1 ≠ b
section
variable {X:Cx} {pins:List (Addr × Obj)} {σ:St} {H:Hp} {s:Shared}
theorem Inv.nw (hex:X.ex = []) (I:Inv X pins σ H s) {b:Addr} (e:s.heap.get? b = none):Nw X pins b:=by
 refine ⟨?_,fun z=>?_,fun y c l z=>?_,fun p hp z=>?_⟩
 ·cases q:X.s₀.heap.get? b with
  | none=>rfl
  | some o =>
   obtain ⟨o',z⟩:=I.base.there b o q (by rw [hex]; intro w; cases w)
   rw [e] at z; cases z
 ·obtain ⟨_,⟨o,_,_,ho,_⟩,_⟩:=I.loc
  rw [<- z,e] at ho; cases ho
 ·obtain ⟨v,o,ho,_⟩:=I.cell y c l
  rw [z,e] at ho; cases ho
 ·have:=(I.pin p hp).1
  rw [z,e] at this; cases this
theorem Inv.touch (I:Inv X pins σ H s) {xs:List Addr} {h':Heap} (lf:Lft (frs X.stack) xs s.heap h') (hx:∀ b ∈ xs,Nw X pins b/\H b = none):Inv X pins σ H { s with heap:=h' }:=by
 have old:∀ b o,X.s₀.heap.get? b = some o->b ∉ xs:=fun b o e z=>by rw [(hx b z).1.1] at e; cases e
 have trk:∀ b u,H b = some u->b ∉ xs:=fun b u e z=>by rw [(hx b z).2] at e; cases e
 have nloc:X.env.locals ∉ xs:=fun z=>(hx _ z).1.2.1 rfl
 have ncell:∀ y c,X.env.cells.lookup y = some c->c ∉ xs:=fun y c l z=>(hx _ z).1.2.2.1 y c l rfl
 have nfr:∀ b o,X.s₀.heap.get? b = some o->b ∉ X.fs->b ∉ frs X.stack:=fun b o e n z=>by
  rcases List.mem_cons.mp (I.stkSub b z) with q | q
  ·have:=Nat.lt_of_lt_of_le (Heap.lt_size e) I.ok.above
   rw [q] at this
   exact Nat.lt_irrefl _ this
  ·exact n q
 have cellOk:∀ c v,s.heap.IsCell c v->c ∉ xs->h'.IsCell c v:=fun c v ⟨o,ho,hd⟩ n=>by
  obtain ⟨sl,z⟩:=lf.slot c o ho n
  exact ⟨_,z,hd⟩
 refine ⟨I.ok,I.os,I.bare,⟨fun b o e n nf nx=>?_,fun b o e n hf nx=>?_,fun b o e n z=>I.base.free b o e n z,fun b o e nx=>?_,I.base.tups,I.base.frzs,I.base.tbls⟩,?_,fun y c l=>?_,I.free,I.freeC,fun p hp=>?_,fun b u e=>?_,I.len⟩
 ·exact lf.keep b o (I.base.keep b o e n nf nx) (old b o e) (nfr b o e nf)
 ·obtain ⟨sl,z⟩:=I.base.slot b o e n hf nx
  obtain ⟨sl',z'⟩:=lf.slot b _ z (old b o e)
  exact ⟨sl',z'⟩
 ·obtain ⟨o',z⟩:=I.base.there b o e nx
  obtain ⟨sl',z'⟩:=lf.slot b _ z (old b o e)
  exact ⟨_,z'⟩
 ·obtain ⟨m,⟨o,es,ep,ho,hd,r⟩,hl⟩:=I.loc
  obtain ⟨sl,z⟩:=lf.slot _ o ho nloc
  refine ⟨m,⟨_,es,ep,z,hd,r⟩,fun i x v e1 e2 e3=>?_⟩
  obtain ⟨u,ru,l⟩:=hl i x v e1 e2 e3
  refine ⟨u,ru,?_⟩
  rcases l with l | ⟨l1,c,l2,l3⟩
  ·exact .inl l
  ·exact .inr ⟨l1,c,l2,cellOk c _ l3 (ncell x c l2)⟩
 ·obtain ⟨v,z⟩:=I.cell y c l
  exact ⟨v,cellOk c v z (ncell y c l)⟩
 ·obtain ⟨p1,p2,p3,p4,p5⟩:=I.pin p hp
  refine ⟨lf.keep p.1 p.2 p1 (fun z=>(hx _ z).1.2.2.2 p hp rfl) (fun z=>?_),p2,p3,p4,p5⟩
  rcases List.mem_cons.mp (I.stkSub _ z) with q | q
  ·exact p3 q
  ·exact p4 q
 ·refine (I.hok b u e).stay (fun c v hc q'=>?_) (fun _ q'=>q') fun _ _ q'=>q'
  have hc':∃ u',H c = some u':=by
   rcases hc with z | z
   ·exact ⟨u,by rw [z]; exact e⟩
   ·exact ⟨_,z⟩
  obtain ⟨u',hu⟩:=hc'
  exact lf.keep c v q' (trk c u' hu) fun z=>by rw [I.stkFree c z] at hu; cases hu
end
def XP (X:Cx) (pins:List (Addr × Obj)) (σ:St) (Ex:Addr->Hp->Prop) (e:Value) (s':Shared):Prop :=
 ∃ x T C H',e = .ref x/\Inv X pins σ H' s'/\Trk T x (.ref C) s'.heap/\Nw X pins x/\Nw X pins T/\H' x = none/\H' T = none/\Ex C H'
def exK (Ex:Addr->Hp->Prop):XK:=fun cls _ H=>∃ C,cls = .ref C/\Ex C H
theorem Ajk {X:Cx} {P:Program} {w:World} (hex:X.ex = []) (hP:X.prog = P) (hw:X.w = w) {pins:List (Addr × Obj)} {σ:St} {H:Hp} {s s':Shared} {Ex:Addr->Hp->Prop} {e:Value} (I:Inv X pins σ H s) (h:CX1 P w X.stack H s (exK Ex) e s'):XP X pins σ Ex e s':=by
 obtain ⟨x,T,C,H',rfl,tk,gx,gT,nx,nT,os,bare,un,hok,C',ec,hE⟩:=h
 cases ec
 obtain ⟨hh,g,d,t,os'⟩:=s'
 obtain rfl:os' = s.os:=os
 subst hP hw
 exact ⟨x,T,C,H',rfl,I.call (h':=hh) (g':=g) (d':=d) (t':=t) (ch:=[]) un hok bare (fun b z=>absurd z (by simp)),tk,I.nw hex gx,I.nw hex gT,nx,nT,hE⟩
theorem Agm {M:Model} {A:Around} {E:Value->Shared->Prop} {h:Heap} {g:Array GenState} {d:Drawn} {t:Nat} {os:OsState} {e C D:Addr} {oe:Obj} {Q:Bool->Shared->Prop}
  {nm q:Str} {N:Addr} {bs bm:List Value} {hdct:Bool} {sn:List Str} {sub:List Value} {ab:Bool} {col:Option Bool} {dd:Option Addr} {k0 k1 k2 k3 k5:Option Value} {newId:String}
  {nm' q':Str} {N':Addr} {bs' bm':List Value} {hdct':Bool} {sn':List Str} {sub':List Value} {ab':Bool} {col':Option Bool} {dd':Option Addr} {k0' k1' k2' k3' k5':Option Value} {newId':String}
  (gC:h.get? C = some (excClassObj nm q C N bs bm hdct sn sub ab col dd k0 k1 k2 k3 k5 newId)) (gD:h.get? D = some (excClassObj nm' q' D N' bs' bm' hdct' sn' sub' ab' col' dd' k0' k1' k2' k3' k5' newId'))
  (ge:h.get? e = some oe) (ce:oe.cls = .ref C) (bD:bm'.contains (.type "BaseException") = true) (hCD:(Value.ref C :: bm).contains (.ref D) = true) (hq:Q true ⟨h,g,d,t,os⟩):wpAny M A (excMatches (.ref e) (.ref D)) Q E ⟨h,g,d,t,os⟩:=by
 have b2:(Value.ref D :: bm').contains (.type "BaseException") = true:=by rw [List.contains_cons,bD,Bool.or_true]
 have ft:=tc_notTuple
 unfold excMatches
 repeat (first
  | (with_reducible refine wpAny_loadPart_at ge ?_; rw [ce])
  | with_reducible refine wpAny_loadPart_at gD ?_
  | (with_reducible refine wpAny_isSubtype_exc gD ?_; rw [b2])
  | (with_reducible refine wpAny_isSubtype_exc gC ?_; rw [hCD])
  | wp_step)
 exact hq
theorem Acc {α:Type}:∀ {l:List α},l.Nodup->∀ {i j:Nat} {x:α},l[i]? = some x->l[j]? = some x->i = j
 | [],_,_,_,_,h,_=>by simp at h
 | a :: r,nd,0,0,_,_,_=>rfl
 | a :: r,nd,0,j + 1,x,h1,h2=>by
  have e:a = x:=Option.some.inj h1
  exact absurd (List.mem_of_getElem? (show r[j]? = some a by rw [e]; exact h2)) (List.nodup_cons.mp nd).1
 | a :: r,nd,i + 1,0,x,h1,h2=>by
  have e:a = x:=Option.some.inj h2
  exact absurd (List.mem_of_getElem? (show r[i]? = some a by rw [e]; exact h1)) (List.nodup_cons.mp nd).1
 | a :: r,nd,i + 1,j + 1,x,h1,h2=>congrArg (· + 1) (Acc (List.nodup_cons.mp nd).2 (show r[i]? = some x from h1) (show r[j]? = some x from h2))
def excF (x C:Addr):Heap->Prop:=fun h=>∃ o vs,h.get? x = some o/\o.cls = .ref C/\o.dict = none/\o.data = .fields vs
section
variable {X:Cx} {pins:List (Addr × Obj)} {σ:St} {H:Hp} {s:Shared}
theorem Inv.track (I:Inv X pins σ H s) {x C:Addr} {oe:Obj} (nw:Nw X pins x) (hx:H x = none) {vs:Array Value} (ge:s.heap.get? x = some oe) (ce:oe.cls = .ref C) (dn:oe.dict = none) (de:oe.data = .fields vs):Inv X pins σ (upd H x (.ext (excF x C))) s:=by
 have ne:∀ b u,H b = some u->b ≠ x:=fun b u e z=>by rw [z,hx] at e; cases e
 refine ⟨I.ok,I.os,I.bare,⟨I.base.keep,I.base.slot,fun b o e n z=>?_,I.base.there,fun b xs e=>?_,fun b o u e=>?_,fun b ps e=>?_⟩,I.loc,I.cell,?_,fun y c l=>?_,fun p hp=>?_,fun b u e=>?_,I.len⟩
 ·rw [Bg (fun w=>by rw [w,nw.1] at e; cases e)]
  exact I.base.free b o e n z
 ·have z:=I.base.tups b xs e
  rw [Bg (ne _ _ z)]; exact z
 ·have z:=I.base.frzs b o u e
  rw [Bg (ne _ _ z)]; exact z
 ·obtain ⟨more,z⟩:=I.base.tbls b ps e
  exact ⟨more,by rw [Bg (ne _ _ z)]; exact z⟩
 ·rw [Bg nw.2.1.symm]; exact I.free
 ·rw [Bg (nw.2.2.1 y c l)]; exact I.freeC y c l
 ·obtain ⟨p1,p2,p3⟩:=I.pin p hp
  exact ⟨p1,by rw [Bg (nw.2.2.2 p hp)]; exact p2,p3⟩
 ·by_cases z:b = x
  ·subst z
   rw [Bk] at e
   cases e
   exact ⟨⟨oe,vs,ge,ce,dn,de⟩,⟨oe,ge⟩,fun h h' ⟨o,vs,g1,g2⟩ k=>⟨o,vs,k o g1,g2⟩⟩
  ·rw [Bg z] at e
   exact (I.hok b u e).stay (fun c v _ q'=>q') (fun c q'=>by rw [Bg (ne _ _ q')]; exact q') fun c xs q'=>by rw [Bg (ne _ _ q')]; exact q'
def mkX (X:Cx) (v:Value):Cx:={ X with A:=X.A.mark (some v),calm:=false,xe:=fun _ _=>False }
theorem Inv.mark (I:Inv X pins σ H s) (v:Value):Inv (mkX X v) pins σ H s :=
 ⟨⟨I.ok.mod,I.ok.kind,I.ok.glob,I.ok.blt,I.ok.above,I.ok.inj,I.ok.has,I.ok.cab,fun z=>Bool.noConfusion z,I.ok.frames,I.ok.stk,I.ok.exf,I.ok.bs,I.ok.bsz,I.ok.noex,I.ok.exfs,I.ok.funs,I.ok.frf⟩,I.os,I.bare,I.base,I.loc,I.cell,I.free,I.freeC,I.pin,I.hok,I.len⟩
theorem Inv.unmark {v:Value} (ok:X.Ok) (I:Inv (mkX X v) pins σ H s):Inv X pins σ H s:=⟨ok,I.os,I.bare,I.base,I.loc,I.cell,I.free,I.freeC,I.pin,I.hok,I.len⟩
theorem Rf {M:Model} {A:Around} {E:Value->Shared->Prop} {i:Nat} {n:Str} {pos:Pos} {Q:Unit->Shared->Prop} (I:Inv X pins σ H s) (hN:X.N.Nodup) (hi:X.N[i]? = some n) (hl:X.env.kindOf n = some .local)
  (q:∀ s',Inv X pins (σ.set i none) H s'->Q () s'):wpAny M A (do bindName X.env n .none; unbindBehindTheSuite X.env n pos) Q E s:=by
 obtain ⟨m,hn,hlo⟩:=id I.loc
 have hcls:(X.env.scope.kind == .class || (X.env.scope.kind == .module && X.env.locals != X.env.globals)) = false:=by rw [I.ok.kind]; rfl
 refine wpAny_nameGoes_keeps hl hn hcls fun h' v hn' sb=>q _ ?_
 have cne:=I.cne
 have nl:∀ b o,X.s₀.heap.get? b = some o->b ≠ X.env.locals:=fun b o e z=>by
  have:=Nat.lt_of_lt_of_le (Heap.lt_size e) I.ok.above
  rw [z] at this
  exact Nat.lt_irrefl _ this
 refine ⟨I.ok,I.os,I.bare,⟨fun b o e n nf nx=>(sb.2 b (nl b o e)).trans (I.base.keep b o e n nf nx),fun b o e n hf nx=>?_,I.base.free,fun b o e nx=>?_,I.base.tups,I.base.frzs,I.base.tbls⟩,⟨_,hn',fun j y v' e1 e2 e3=>?_⟩,fun y c l=>?_,I.free,I.freeC,fun p hp=>?_,fun b u e=>?_,by rw [List.length_set]; exact I.len⟩
 ·obtain ⟨sl,z⟩:=I.base.slot b o e n hf nx
  exact ⟨sl,(sb.2 b (nl b o e)).trans z⟩
 ·obtain ⟨o',z⟩:=I.base.there b o e nx
  exact ⟨o',(sb.2 b (nl b o e)).trans z⟩
 ·have hj:j ≠ i:=fun z=>by
   subst z
   have hlt:j < σ.length:=by rw [I.len]; exact (List.getElem?_eq_some_iff.mp e1).1
   rw [List.getElem?_set_self hlt] at e2
   cases e2
  have hy:y ≠ n:=fun z=>by
   subst z
   exact hj (Acc hN e1 hi)
  rw [List.getElem?_set_ne (Ne.symm hj)] at e2
  obtain ⟨u,ru,l⟩:=hlo j y v' e1 e2 e3
  refine ⟨u,ru,?_⟩
  rcases l with ⟨l1,l2⟩ | ⟨l1,c,l2,o,l3,l4⟩
  ·exact .inl ⟨l1,by show (if y = n then v else m y) = _; rw [if_neg hy]; exact l2⟩
  ·exact .inr ⟨l1,c,l2,o,(sb.2 c (cne y c l2)).trans l3,l4⟩
 ·obtain ⟨v,o,l3,l4⟩:=I.cell y c l
  exact ⟨v,o,(sb.2 c (cne y c l)).trans l3,l4⟩
 ·obtain ⟨p1,p2,p3,p4⟩:=I.pin p hp
  exact ⟨(sb.2 _ p3).trans p1,p2,p3,p4⟩
 ·have ne:∀ c u',H c = some u'->c ≠ X.env.locals:=fun c u' e z=>by rw [z,I.free] at e; cases e
  refine (I.hok b u e).stay (fun c v hc q'=>(sb.2 c ?_).trans q') (fun _ q'=>q') fun _ _ q'=>q'
  rcases hc with z | z
  ·rw [z]; exact ne b u e
  ·exact ne c _ z
theorem Aby {M:Model} {A:Around} {E:Value->Shared->Prop} {T e:Addr} {cls:Value} {fs:List Addr} {Q:Unit->Shared->Prop} (tk:Trk T e cls s.heap) (q:∀ h',Lft fs [T] s.heap h'->Trk T e cls h'->Q () { s with heap:=h' }):wpAny M A (setFlight (.ref e) none) Q E s:=by
 obtain ⟨oe,vs,oT,ts,ge,ce,dn,de,v1,nTe,gT,dT,t3⟩:=tk
 have n3:3 < ts.size:=(Array.getElem?_eq_some_iff.mp t3).1
 unfold setFlight
 refine wpAny_bind (wpAny_field ge de v1 ?_)
 rw [if_pos (by simp)]
 have oth:∀ b,b ∉ [T]->b ≠ T:=fun b z w=>z (by rw [w]; exact List.mem_cons_self)
 refine wpAny_setField gT dT n3 (q _ ⟨fun b o gb nb _=>?_,fun b o gb nb=>⟨o.slots,?_⟩⟩ ?_)
 ·rw [Heap.get?_update_other _ _ (oth b nb).symm]; exact gb
 ·rw [Heap.get?_update_other _ _ (oth b nb).symm]; exact gb
 ·refine ⟨oe,vs,_,_,(Heap.get?_update_other _ _ nTe).trans ge,ce,dn,de,v1,nTe,Heap.get?_update_self _ gT (Obj.isFreed_of_fields (Obj.data_mapFields dT _)),Obj.data_mapFields dT _,?_⟩
  simp [n3]
end
abbrev TSx:=Ends->(Addr->Hp->Prop)->St->Hp->Prop
def PSx (X:Cx) (b:List Stmt) (t:TSx):Prop :=
 ∀ (pins:List (Addr × Obj)) (s:Shared) (σ:St) (H:Hp) (D:Ends) (Ex:Addr->Hp->Prop),Inv X pins σ H s->t D Ex σ H->wpAny (model X.prog X.w) X.A (execs b X.env) (SP X pins D) (XP X pins σ Ex) s
def Ze (i:Nat) (D:Ends):Ends where
 nx:=fun σ H=>D.nx (σ.set i none) H
 rt:=D.rt
 bk:=fun σ H=>D.bk (σ.set i none) H
 ct:=fun σ H=>D.ct (σ.set i none) H
def AhS (tb:TSx) (S:Addr->Prop) (i:Nat) (ts:TS):TS:=fun D σ H=>tb D (fun C H1=>S C/\∀ x,H1 x = none->ts (Ze i D) (σ.set i (some (.ref x))) (upd H1 x (.ext (excF x C)))) σ H
theorem AiF {X:Cx} {body:List Stmt} {b0:Stmt} {suite:List Stmt} {y n:Str} {np hpos pos:Pos} {Dc:Addr} {tb:TSx} {ts:TS} {S:Addr->Prop} {i:Nat} {bmB:List Value} {newId:String}
  (hst:X.stack = X.env :: X.outer) (hfr:X.env.frame = some X.env.locals) (hb:PSx X body tb) (hs:∀ v,PSs (mkX X v) (b0 :: suite) ts)
  (hg:Gl X y) (hm:X.mg y = some (.ref Dc)) (qD:PySem.W.excIn X.K Dc bmB newId = true) (hbase:bmB.contains (.type "BaseException") = true)
  (hS:∀ C,S C->∃ z bmC nC,X.mg z = some (.ref C)/\PySem.W.excIn X.K C bmC nC = true/\PySem.W.mroIn X.K C (.ref Dc) = some true)
  (hN:X.N.Nodup) (hi:X.N[i]? = some n) (hl:X.env.kindOf n = some .local) (hdb:(y == ("__debug__" : Str)) = false:=by decide) :
  PS X (.Try body [.ExceptHandler (some (.Name y np)) (some n) (b0 :: suite) hpos] [] [] pos) (AhS tb S i ts):=by
 intro pins s σ H D I h
 refine wpAny_Try_except (wpAny_mono (hb pins s σ H D _ I h) (fun f s1 q=>?_) (fun e s1 q=>?_))
 ·cases f with
  | next=>exact wpAny_execs_nil q
  | ret v=>exact q
  | brk=>exact q
  | cont=>exact q
 ·obtain ⟨x,T,C,H1,rfl,I1,tk,nx,nT,hx,hT,hSC,q⟩:=q
  refine Uv (base:=X.base) (outer:=X.outer) (L:=X.env.locals) (hst ▸ I1.ok.frames) (hst ▸ I1.stack) hfr tk fun h2 T2 hT2 lf tk2=>?_
  have xs1:∀ b ∈ [x,T],Nw X pins b/\H1 b = none:=fun b hb=>by
   rcases List.mem_cons.mp hb with z | z
   ·rw [z]; exact ⟨nx,hx⟩
   ·rw [List.mem_singleton.mp z]; exact ⟨nT,hT⟩
  have I2:Inv X pins σ H1 { s1 with heap:=h2 }:=I1.touch (by rw [hst]; exact lf) xs1
  have nT2:Nw X pins T2:=by
   refine ⟨Heap.get?_none_of_le (Nat.le_trans I1.sz hT2),fun z=>?_,fun y c l z=>?_,fun p hp z=>?_⟩
   ·have:=I1.lt
    rw [<- z] at this
    exact absurd (Nat.lt_of_lt_of_le this hT2) (Nat.lt_irrefl _)
   ·obtain ⟨v,o,ho,_⟩:=I1.cell y c l
    have:=Heap.lt_size ho
    rw [z] at this
    exact absurd (Nat.lt_of_lt_of_le this hT2) (Nat.lt_irrefl _)
   ·have:=Heap.lt_size (I1.pin p hp).1
    rw [z] at this
    exact absurd (Nat.lt_of_lt_of_le this hT2) (Nat.lt_irrefl _)
  have fT2:H1 T2 = none:=I1.hok.fresh hT2
  obtain ⟨zc,bmC,nC,mC,qC,rC⟩:=hS C hSC
  have OC:=Yt (h:=X.base) I1.ok.mod.kin mC qC
  have OD:=Yt (h:=X.base) I1.ok.mod.kin hm qD
  obtain ⟨tl,N1,nm,qn,bs,hdct,sn,sub,ab,col,dd,k0,k1,k2,k3,k5,mN,gC,_⟩:=OC.obj
  obtain ⟨tl',N1',nm',qn',bs',hdct',sn',sub',ab',col',dd',k0',k1',k2',k3',k5',mN',gD,_,_,TD⟩:=OD.obj
  have cCD:(Value.ref C :: tl).contains (.ref Dc) = true:=by
   obtain ⟨cdm,a1,a2⟩:=Option.bind_eq_some_iff.mp rC
   split at a2
   ·cases a2
   ·have a3:=Option.some.inj a2
    unfold PySem.W.clsIn at a1
    split at a1
    ·rename_i lk
     cases a1
     have:=(I1.ok.mod.kin _ _ lk).symm.trans gC
     cases this
     exact a3
    ·cases a1
  obtain ⟨oe2,vs2,oT2',ts2,ge2,ce2,rest2⟩:=id tk2
  have I2m:=I2.mark (.ref x)
  refine wpAny_handleBy_cons (codeAny_handlers_test (Ng I2m (show Gl (mkX X (.ref x)) y from hg) (show (mkX X (.ref x)).mg y = _ from hm) ?_ hdb)) (by intro z; cases z)
  refine Agm (C:=C) (I2.bk _ _ gC) (I2.bk _ _ gD) ge2 ce2 (TD.hasType hbase) cCD ?_
  refine codeAny_handlers_suite_as (Aby (fs:=frs X.stack) tk2 fun h3 lf3 tk3=>?_)
  have I3:Inv X pins σ H1 { s1 with heap:=h3 }:=I2.touch lf3 fun b hb=>by rw [List.mem_singleton.mp hb]; exact ⟨nT2,fT2⟩
  obtain ⟨oe3,vs3,oT3,ts3,ge3,ce3,dn3,de3,rest3⟩:=id tk3
  have I4:=(I3.track nx hx ge3 ce3 dn3 de3).mark (.ref x)
  refine Ty (X:=mkX X (.ref x)) I4 hN hi (.inl hl) (v:=.ref x) rfl (fun s4 I5=>?_) (.inr hl)
  refine wpAny_mono (hs (.ref x) pins s4 _ _ (Ze i D) I5 (q x hx)) (fun f s5 q5=>?_) fun _ _ z=>z.elim
  cases f with
  | next =>
   obtain ⟨σ',H',I6,q6⟩:=q5
   exact Rf (I6.unmark I.ok) hN hi hl fun s6 I7=>⟨_,H',I7,q6⟩
  | brk =>
   obtain ⟨σ',H',I6,q6⟩:=q5
   exact Rf (I6.unmark I.ok) hN hi hl fun s6 I7=>⟨_,H',I7,q6⟩
  | cont =>
   obtain ⟨σ',H',I6,q6⟩:=q5
   exact Rf (I6.unmark I.ok) hN hi hl fun s6 I7=>⟨_,H',I7,q6⟩
  | ret u =>
   obtain ⟨v,σ',H',I6,r6,q6⟩:=q5
   exact Rf (I6.unmark I.ok) hN hi hl fun s6 I7=>⟨v,_,H',I7,r6,q6⟩
abbrev TEx:=St->Hp->VK->(Addr->Hp->Prop)->Prop
def PEx (X:Cx) (e:Expr) (t:TEx):Prop :=
 ∀ (pins:List (Addr × Obj)) (s:Shared) (σ:St) (H:Hp) (Q:VK) (Ex:Addr->Hp->Prop),Inv X pins σ H s->t σ H Q Ex->wpAny (model X.prog X.w) X.A (eval e X.env) (EP X pins σ Q) (XP X pins σ Ex) s
section
variable {X:Cx} {k:Nat} {f C:Addr} {fd:FuncData} {ps:List Str} {sp:Sp} {dvs:List V} {ds:List Value} {x m:Str} {p pos apos:Pos} {e o:Expr} {es:List Expr} {ta:TE} {t:TA}
theorem AgY {pins:List (Addr × Obj)} {σ:St} {H:Hp} {s:Shared} {Q:VK} {Ex:Addr->Hp->Prop} {us:List Value} {vs:List V} (hex:X.ex = []) (F:FnOk X.prog X.w X.K X.mg X.base (CX1 X.prog X.w) k f fd ps sp) (hr:Room k X.A) (hb:Binds X.K fd ps ds) (hd:Vals dvs ds)
  (I:Inv X pins σ H s) (r:Vals vs us) (h:sp (vs ++ dvs) H Q (exK Ex)):wpAny (model X.prog X.w) X.A (call (.ref f) us) (EP X pins σ Q) (XP X pins σ Ex) s:=by
 have r2:Vals (vs ++ dvs) (us ++ ds):=r.append hd
 have hl:(us ++ ds).length = ps.length:=by rw [<- r2.length]; exact F.len _ _ _ _ h
 refine wpAny_call (codeAny_mono (F.run X.A X.stack s H ⟨us,[]⟩ (us ++ ds) (vs ++ dvs) Q (exK Ex) hr I.env0 (hb s us I.kIn hl) r2 h) fun r s' hq=>?_)
 cases r with
 | error e=>exact Ajk hex rfl rfl I hq
 | ok fl =>
  cases fl with
  | ret u=>exact I.after hq
  | next=>exact False.elim hq
  | brk=>exact False.elim hq
  | cont=>exact False.elim hq
theorem AeM {pins:List (Addr × Obj)} {σ:St} {H:Hp} {s:Shared} {R:List V->Hp->Prop} {E:Value->Shared->Prop} (ha:PA X.nox es t) (I:Inv X pins σ H s) (h:t σ H R) :
  wpAny (model X.prog X.w) X.A (spliced (backTo pos (starEach es X.env))) (fun us s'=>∃ xs H',Inv X pins σ H' s'/\Vals xs us/\R xs H') E s :=
 wpAny_mono (ha pos pins s σ H R (I.wish _) h) (fun us s' ⟨xs,H',I',r,q⟩=>⟨xs,H',I'.unwish,r,q⟩) fun _ _ z=>False.elim z
def AcA (sp:Sp) (dvs:List V) (t:TA):TEx:=fun σ H Q Ex=>t σ H fun vs H1=>sp (vs ++ dvs) H1 Q (exK Ex)
theorem Aet (hex:X.ex = []) (F:FnOk X.prog X.w X.K X.mg X.base (CX1 X.prog X.w) k f fd ps sp) (hr:Room k X.A) (hg:Gl X x) (hm:X.mg x = some (.ref f)) (hk:PySem.W.keepIn X.K (.ref f) = true) (hb:Binds X.K fd ps ds) (hd:Vals dvs ds)
  (ha:PA X.nox (e :: es) t) (hdb:(x == ("__debug__" : Str)) = false:=by decide) (he:starEach (e :: es) X.env = (false,eval e X.env) :: starEach es X.env:=by rfl) (hpl:(backTo pos (starEach es X.env)).any (·.1) = false:=by rfl) :
  PEx X (.Call (.Name x p) (e :: es) [] pos) (AcA sp dvs t):=by
 intro pins s σ H Q Ex I h
 refine wpAny_Call_Name_kw (Ng I hg hm ?_ hdb)
 exact PySem.W.callWith_K (h₀:=X.base) I.ok.mod.kin hk (thn (AeM ha I h) fun us s1 ⟨vs,H1,I1,r,q⟩=>⟨I1.kIn,AgY hex F hr hb hd I1 r q⟩) he hpl
def Adv (t:TEx):TSx:=fun D Ex σ H=>t σ H (fun _ H1=>D.nx σ H1) Ex
theorem Ad4 {t:TEx} (he:PEx X e t) (hs:swapsWith e none pos.line X.env = pure false:=by rfl):PSx X [.Expr e pos] (Adv t):=by
 intro pins s σ H D Ex I h
 refine wpAny_execs_cons (wpAny_mono (wpAny_Expr_any (Q:=SP X pins D) (thn (he pins s σ H _ Ex I h) fun v s1 ⟨x,H1,I1,r1,q1⟩=>⟨σ,H1,I1,q1⟩) I.quiet hs) (fun f s1 q=>?_) fun _ _ z=>z)
 cases f with
 | next=>exact wpAny_execs_nil q
 | ret v=>exact q
 | brk=>exact q
 | cont=>exact q
end
section
variable {σ:St} {H:Hp} {Q:VK} {D:Ends} {Ex:Addr->Hp->Prop}
end
end L2
set_option Elab.async false
set_option linter.all false
set_option maxRecDepth 100000
set_option maxHeartbeats 4000000
namespace L2
open PySem PySem.Spec PyProof.Rows
theorem AdZ {M:Model} {A:Around} {E:Value->Shared->Prop} {s:Shared} {x C:Addr} {nv:Value} {R:Unit->Shared->Prop} (L0:PySem.W.Looks M s.heap (typeOf (.ref x)) (.ref C)) (LB:PySem.W.Looks M s.heap (isSubtype (.ref C) (.type "BaseException")) true) (h:R () s) :
  wpAny M A (checkBuiltinCall "BaseException.__getattribute__" ⟨[.ref x,nv],[]⟩) R E s:=by
 have hk:builtinKind "BaseException.__getattribute__" = some .slot:=by decide +kernel
 have hsplit:splitId "BaseException.__getattribute__" = some ("BaseException","__getattribute__"):=by decide +kernel
 have ha:=PySem.F.args_bexc_ga (.ref x) nv
 unfold argsOk at ha
 simp only [checkBuiltinCall,hk,hsplit]
 refine wpAny_bind ?_
 unfold isInstance
 refine wpAny_bind (L0.at ?_)
 refine LB.at ?_
 rw [if_neg (by simp)]
 generalize Manifest.signature? "BaseException.__getattribute__" = sg at ha ⊢
 cases sg with
 | none=>exact wpAny_pure h
 | some sig =>
  dsimp only at ha ⊢
  rw [ha]
  exact wpAny_pure h
theorem Acj {K:PySem.W.Frag} {C x:Addr} {ox:Obj} {prog:Program} {w:World} {A:Around} {E:Value->Shared->Prop} {s:Shared} {Q:Option Value->Shared->Prop} (X:K.In s.heap) (I:PySem.W.InstAt s.heap x ox C none)
  (hga:PySem.W.findIn K (.ref C) "__getattribute__" = some (some (.builtin "BaseException.__getattribute__"))) (hgx:PySem.W.findIn K (.ref C) "__getattr__" = some none)
  (hcl:PySem.W.findObj K C none "__class__" = some (.bind (.builtin "getset_descriptor.__get__") (.builtin "object.__class__"))) (hmB:PySem.W.mroIn K C (.type "BaseException") = some true) (hmO:PySem.W.mroIn K C (.type "object") = some true)
  (h:Q (some (.ref C)) { s with toks:=s.toks + 1 }):wpAny (model prog w) A (getAttr? (.ref x) "__class__") Q E s:=by
 obtain ⟨hh,g,d,t,os⟩:=s
 have L0:=I.type (M:=model prog w)
 have L1:=PySem.W.looks_findIn (M:=model prog w) X hga
 have L2':=PySem.W.looks_findIn (M:=model prog w) X hgx
 have LB:=PySem.W.looks_mroIn (M:=model prog w) X hmB
 have LF:=PySem.W.looks_find (M:=model prog w) X I hcl
 unfold getAttr? getAttrBy? getAttrBy
 refine wpAny_bind (wpAny_mkText (wpAny_bind (wpAny_attempt (wpAny_holding (wpAny_bind (L0.at (wpAny_bind (L1.at ?_))))))))
 dsimp only
 rw [if_neg (by rw [show (Value.builtin "BaseException.__getattribute__" == Value.builtin "object.__getattribute__") = false by decide +kernel,Bool.and_false]; exact Bool.false_ne_true)]
 unfold getAttrByItsOwn hookBefore
 rw [if_pos (by rfl)]
 refine wpAny_bind (L2'.at ?_)
 refine wpAny_bind (wpAny_attempt (wpAny_holding ?_))
 unfold callGetattribute
 rw [if_neg (by simp)]
 unfold boundAndCalled
 rw [PySem.F.excAttr_ValueError.ga.bind (.ref x)]
 refine wpAny_bind (wpAny_pure ?_)
 dsimp only [List.cons_append,List.nil_append]
 refine wpAny_call (codeAny_call_builtin PySem.F.excAttr_ValueError.ga.plain PySem.F.entry_bexc_ga (AdZ L0 LB ?_))
 unfold Builtin.«object.__getattribute__»
 refine wpAny_bind (wpAny_pure ?_)
 dsimp only
 refine wpAny_bind (wpAny_pure ?_)
 refine wpAny_bind (L0.at ?_)
 refine wpAny_bind (LF.at ?_)
 dsimp only
 unfold Builtin.ObjectAttr.bindTo
 dsimp only
 refine wpAny_bind (wpAny_holding (wpAny_call (PySem.W.class_get (od:=none) (ox:=ox) X I hmO ?_)))
 refine wpAny_pure ?_
 exact PySem.W.handed_on rfl (wpAny_pure h)
structure Ra (K:PySem.W.Frag) (C:Addr):Prop where
 cd:PySem.W.isClsIn K C = true
 ga:PySem.W.findIn K (.ref C) "__getattribute__" = some (some (.builtin "BaseException.__getattribute__"))
 gx:PySem.W.findIn K (.ref C) "__getattr__" = some none
 cl:PySem.W.findIn K (.ref C) "__class__" = some (some (.builtin "object.__class__"))
 sg:PySem.W.specialIn K (.builtin "object.__class__") "__get__" = some (some (.builtin "getset_descriptor.__get__"))
 tk:PySem.W.takesIn K (.builtin "object.__class__") = some true
 mB:PySem.W.mroIn K C (.type "BaseException") = some true
 mO:PySem.W.mroIn K C (.type "object") = some true
theorem Sc {K:PySem.W.Frag} {C:Addr} (h:PySem.W.isClsIn K C = true):∃ c d cd sl,K.lookup C = some ⟨c,d,.cls cd,sl⟩/\PySem.W.clsIn K C = some cd:=by
 have h':(PySem.W.clsIn K C).isSome = true:=h
 cases e:PySem.W.clsIn K C with
 | none=>rw [e] at h'; cases h'
 | some cd =>
  have e':=e
  unfold PySem.W.clsIn at e'
  split at e'
  ·cases e'; exact ⟨_,_,_,_,by assumption,rfl⟩
  ·cases e'
theorem AdA {K:PySem.W.Frag} {C:Addr} {name:Str} {a g:Value} (hc:PySem.W.isClsIn K C = true) (ha:PySem.W.findIn K (.ref C) name = some (some a)) (hg:PySem.W.specialIn K a "__get__" = some (some g)) (ht:PySem.W.takesIn K a = some true):PySem.W.findObj K C none name = some (.bind g a):=by
 obtain ⟨_,_,_,_,_,e⟩:=Sc hc
 simp [PySem.W.findObj,e,ha,hg,ht]
theorem excF.inst {x C:Addr} {h:Heap} (p:excF x C h):∃ ox,PySem.W.InstAt h x ox C none:=by
 obtain ⟨o,vs,g,c,d,e⟩:=p
 refine ⟨o,g,c,?_,?_⟩
 ·unfold PySem.W.notCls; rw [e]
 ·rw [d]; trivial
theorem AeC {K:PySem.W.Frag} {x C:Addr} (N:Ra K C):PySem.W.KitX K (.ref x) (.ref C) (excF x C) where
 ty:=fun _ _ _ p=>by obtain ⟨_,I⟩:=p.inst; exact I.type
 it:=fun M h X _ A' Q' E' s' kk hq=>by
  obtain ⟨_,_,_,_,l,_⟩:=Sc N.cd
  have there:=kk _ _ (X _ _ l)
  unfold isType loadHead
  refine wpAny_bind (wpAny_loadPart there ?_)
  exact wpAny_pure hq
 ne:=fun h tp _ _ _ _ X at_tp=>by
  obtain ⟨_,_,_,_,l,_⟩:=Sc N.cd
  cases hb:(Value.ref C == Value.ref tp) with
  | false=>rfl
  | true =>
   cases Value.ref.inj (beq_iff_eq.mp hb)
   have both:=(X _ _ l).symm.trans at_tp
   cases both
 ca:=fun X p k=>by obtain ⟨_,I⟩:=p.inst; exact Acj X I N.ga N.gx (AdA N.cd N.cl N.sg N.tk) N.mB N.mO k
theorem Zm {X:Cx}:Gw X (.builtin "isinstance") (fun vs H Q=>∃ x C v b,vs = [.ref x,v]/\H x = some (.ext (excF x C))/\Ra X.K C/\(∀ u,RelV v u->PySem.W.kitOne X.K (.ref C) u = some b)/\Q (.bl b) H):=by
 intro pins s σ H vs us Q I r h
 obtain ⟨x,C,v,b,rfl,hx,kn,hk,q⟩:=h
 obtain ⟨u,u2,rfl,rx,ry⟩:=Age r
 cases (show u = Value.ref x from rx)
 obtain ⟨hf,_,_⟩:=(show ObjOk X.prog X.w H s.heap x (.ext (excF x C)) from I.hok x _ hx)
 exact PySem.W.kia_one (AeC kn) I.kIn hf (hk u2 ry) (fun z=>nomatch z) fun tk=>⟨.bl b,H,I.tok tk,rfl,q⟩
theorem Fn {X:Cx} (K':PySem.W.Frag) (h:X.K = K':=by rfl):Gw X (.builtin "isinstance") (fun vs H Q=>∃ x C v b,vs = [.ref x,v]/\H x = some (.ext (excF x C))/\Ra K' C/\(∀ u,RelV v u->PySem.W.kitOne K' (.ref C) u = some b)/\Q (.bl b) H):=by subst h; exact Zm
theorem AfU:bootBuiltins "ValueError" = some (.type "ValueError"):=by decide +kernel
section
variable {X:Cx} {pos:Pos} {a b:Expr} {op op' op2:CmpOp} {ops:List CmpOp} {es:List Expr} {e2:Expr} {ta tb:TE} {r:R2} {u:V->TE}
end
end L2
set_option Elab.async false
set_option linter.all false
set_option maxRecDepth 100000
set_option maxHeartbeats 4000000
namespace L2
open PySem PySem.Spec PyProof.Rows
section
variable {a:Array Keyed}
end
section
variable {prog:Program} {w:World} {A:Around} {E:Value->Shared->Prop} {s:Shared} {z:Array Keyed}
end
end L2
namespace L2
open PySem PySem.Spec PyProof.Rows
section
variable {X:Cx} {pins:List (Addr × Obj)} {σ:St} {H:Hp} {s:Shared}
end
section
variable {X:Cx} {CX:CXT} {pins:List (Addr × Obj)} {σ:St} {H:Hp} {s:Shared} {k:Nat} {f:Addr} {fd:FuncData} {ps:List Str} {sp:Sp}
end
end L2
namespace L2
open PySem PySem.Spec PyProof.Rows
section
variable {X:Cx} {CX:CXT} {pins:List (Addr × Obj)} {σ:St} {H:Hp} {s:Shared} {k:Nat} {f C a dx:Addr} {fd:FuncData} {ps:List Str} {sp:Sp} {fs:List (Str × V)} {m x:Str} {A:Around} {E:Value->Shared->Prop} {o e ke:Expr} {to te:TE} {t tk:TA} {pos p kpos:Pos}
end
end L2
namespace L2
open PySem PySem.Spec PyProof.Rows
end L2
namespace L2
open PySem PySem.Spec PyProof.Rows
def Itn (K:PySem.W.Frag) (a:Addr):It :=
 ⟨fun i H=>∃ xs x,SqL K H a xs/\xs[i]? = some x,fun i H x H'=>∃ t y,H t = none/\(∀ xs,SqL K H a xs->xs[i]? = some y)/\x = .ref t/\H' = upd H t (.tup [.int (i:Int),y]),fun i H=>∃ xs,SqL K H a xs/\xs.length <= i⟩
theorem Adg {P:Program} {w:World} {K:PySem.W.Frag} {elts:List Expr} {x1:Nat} {tp:Pos} (a e it:Addr) (hne:e ≠ it) :
  Vm P w K (.Tuple elts x1 tp) (Itn K a) [e,it] e (fun i h=>(∃ old,IsEnum h e it i old)/\h.IsListIter it a i) where
 mem:=by simp
 obj:=fun i h st b hb=>by
  obtain ⟨⟨old,e1⟩,ob,e2,c2,d2⟩:=st
  rcases List.mem_cons.mp hb with z | z
  ·subst z; exact ⟨_,e1,fun v z=>nomatch z⟩
  ·have z':=List.mem_singleton.mp z
   subst z'
   exact ⟨ob,e2,fun v z=>by rw [d2] at z; cases z⟩
 keep:=fun i h h' st k=>by
  obtain ⟨⟨old,e1⟩,li⟩:=st
  exact ⟨⟨old,k e (by simp) _ e1⟩,li.at fun o q=>k it (by simp) o q⟩
 item:=by
  intro X hP hw hK hc i pins s σ H E I hf st hg
  subst hP hw hK
  obtain ⟨xs,x,hq,hx⟩:=hg
  obtain ⟨⟨old,he⟩,li⟩:=st
  obtain ⟨its,rv,p,hz⟩:=I.list hq
  obtain ⟨u,hu,ru⟩:=rv.get hx
  obtain ⟨f0,f1,f2,f3,f4,f5⟩:=hf e (by simp)
  obtain ⟨g0,g1,g2,g3,g4,g5⟩:=hf it (by simp)
  have hfr:H s.heap.objs.size = none:=I.hok.fresh (Nat.le_refl _)
  have hne1:s.heap.objs.size ≠ e:=Nat.ne_of_gt (Heap.lt_size he)
  have hne2:s.heap.objs.size ≠ it:=by obtain ⟨_,q,_⟩:=li; exact Nat.ne_of_gt (Heap.lt_size q)
  refine wpAny_pyNext_enum_item he li p.isList (x:=u) (by simpa using hu) hne fun h' ho li' hT hsz hk=>⟨_,rfl,?_⟩
  refine wpAny_letOwnedTupleGo_enum (s:={ s with heap:=h',toks:=s.toks + 1 }) ho fun h2 he2 hs=>?_
  have kp:∀ b o,b ≠ e->b ≠ it->s.heap.get? b = some o->h2.get? b = some o:=fun b o n1 n2 q=>(hs.2 b n1).trans (hk b o n1 n2 q)
  have hT2:h2.get? s.heap.objs.size = some { cls:=.type "tuple",data:=.seq #[.int i s.toks,u] }:=(hs.2 _ hne1).trans hT
  have nt:∀ b v,H b = some v->b ≠ s.heap.objs.size:=fun b v q=>Bn q hfr
  have nc:∀ b,b ∉ [e,it]->b ≠ e/\b ≠ it:=fun b z=>⟨fun w=>z (by simp [w]),fun w=>z (by simp [w])⟩
  refine ⟨.ref s.heap.objs.size,upd H s.heap.objs.size (.tup [.int (i:Int),x]),?_,rfl,⟨_,x,hfr,(fun ys hy=>by rw [I.list_inj hy hq]; exact hx),rfl,rfl⟩,⟨⟨u,by simpa using he2⟩,li'.at fun o q=>(hs.2 it hne.symm).trans q⟩,fun b hb=>?_⟩
  ·refine Inv.step (s:=s) (h':=h2) I (g':=s.gens) (d':=s.drawn) (t':=s.toks + 1) (ch:=[e,it]) (fun b hb=>?_) (fun b o _ _ hc q _=>kp b o (nc b hc).1 (nc b hc).2 q) (fun b o _ _ hc q _=>⟨o.slots,kp b o (nc b hc).1 (nc b hc).2 q⟩)
    (fun b o hc q n=>by rw [Bg (Nat.ne_of_lt (Heap.lt_size q))]; exact n) (fun b o hc q=>⟨o,kp b o (nc b hc).1 (nc b hc).2 q⟩) (fun b xs q=>by rw [Bg (nt b _ q)]; exact q) (fun b o v q=>by rw [Bg (nt b _ q)]; exact q)
    (fun b ps q=>⟨#[],by rw [Bg (nt b _ q),q]; simp⟩) (fun m hm=>?_) (fun b v q=>?_) I.bare
   ·rcases List.mem_cons.mp hb with z | z
    ·subst z; exact ⟨f3,f1,f4,f5⟩
    ·have z':=List.mem_singleton.mp z
     subst z'; exact ⟨g3,g1,g4,g5⟩
   ·obtain ⟨o,es,ep,ho,r⟩:=hm
    exact ⟨o,es,ep,kp _ o (Ne.symm f1) (Ne.symm g1) ho,r⟩
   ·by_cases hb:b = s.heap.objs.size
    ·subst hb
     rw [Bk] at q
     cases q
     exact ⟨by show 2 <= sizeLine; decide,[.int i s.toks,u],.cons (show RelV (.int (i:Int)) (.int i s.toks) from ⟨_,rfl⟩) (.cons ru .nil),_,hT2,rfl,_,rfl⟩
    ·rw [Bg hb] at q
     have n1:∀ c w,H c = some w->c ≠ e:=fun c w q z=>by rw [z,f0] at q; cases q
     have n2:∀ c w,H c = some w->c ≠ it:=fun c w q z=>by rw [z,g0] at q; cases q
     refine (I.hok b v q).stay (fun c v' hc q'=>?_) (fun c q'=>by rw [Bg (nt c _ q')]; exact q') fun c xs q'=>by rw [Bg (nt c _ q')]; exact q'
     rcases hc with z | z
     ·rw [z] at q' ⊢; exact kp b v' (n1 b _ q) (n2 b _ q) q'
     ·exact kp c v' (n1 c _ z) (n2 c _ z) q'
  ·rcases List.mem_cons.mp hb with z | z
   ·rw [z,Bg (Ne.symm hne1)]; exact f0
   ·rw [List.mem_singleton.mp z,Bg (Ne.symm hne2)]; exact g0
 done:=by
  intro X hP hw hK hc i pins s σ H E I hf st hg
  subst hP hw hK
  obtain ⟨xs,hq,hx⟩:=hg
  obtain ⟨⟨old,he⟩,li⟩:=st
  obtain ⟨its,rv,p,hz⟩:=I.list hq
  obtain ⟨g0,g1,g2,g3,g4,g5⟩:=hf it (by simp)
  have hl:=rv.length
  exact wpAny_pyNext_enum_end (I.ok.hd hc) he li p.isList (by simp; omega) fun h' eb=>⟨rfl,I.turned (t':=s.toks) (fun b o hb q=>eb b o hb q) g0 g1 g3 g4 g5⟩
 self:=fun A i s Q E st h=>by
  obtain ⟨⟨old,he⟩,_⟩:=st
  exact wpAny_pyIter_enum he h
section
variable {X:Cx} {elts:List Expr} {x1:Nat} {tp p pos:Pos}
def AfZ (K:PySem.W.Frag) (tl:TE):TI:=fun σ H R=>tl σ H fun x H1=>∃ a,x = .ref a/\(∃ xs,SqL K H1 a xs)/\R (Itn K a) H1
theorem AgS {l:Expr} {tl:TE} (hl:PE X l tl) (hg:Gl X "enumerate") (hm:X.mg "enumerate" = none) (hs:starEach [l] X.env = [(false,eval l X.env)]:=by rfl):PI X (.Tuple elts x1 tp) (.Call (.Name "enumerate" p) [l] [] pos) (AfZ X.K tl):=by
 intro pins s σ H R I h
 have pa:PA X [l] (Jo tl Qj):=Ba hl Bb hs
 refine Call_ (No I hg hm PyProof.Rows.boot_enumerate (PyProof.Rows.callWith_type1 (thn (pa pos pins s σ H (fun vs H1=>match vs with
  | [x]=>∃ a,x = .ref a/\(∃ xs,SqL X.K H1 a xs)/\R (Itn X.K a) H1
  | _=>False) I h) fun us s1 ⟨vs,H1,I1,r1,q1⟩=>?_) hs rfl))
 match vs,q1 with
 | [x],⟨a,e,⟨xs,hq⟩,q⟩ =>
  subst e
  obtain ⟨u,rfl,ru⟩:=Sv r1
  cases ru
  obtain ⟨its,rv,pl,hz⟩:=I1.list hq
  refine call_enumerate_list pl.isList fun h' he li hsz hk=>?_
  have I2:Inv X pins σ H1 { s1 with heap:=h' }:=I1.kept (t':=s1.toks) hk
  refine wpAny_pyIter_enum (s:={ s1 with heap:=h' }) he ⟨s1.heap.objs.size + 1,[s1.heap.objs.size + 1,s1.heap.objs.size],_,_,H1,rfl,I2,Adg a _ _ (Nat.succ_ne_self _),⟨⟨_,he⟩,li⟩,fun b hb=>?_,q⟩
  have hge:s1.heap.objs.size <= b:=by
   rcases List.mem_cons.mp hb with z | z
   ·rw [z]; exact Nat.le_succ _
   ·rw [List.mem_singleton.mp z]; exact Nat.le_refl _
  exact I1.fpOk hge (I1.hok.fresh hge)
theorem AdW {K:PySem.W.Frag} {a:Addr} {xs:List V} {g:TG} {tb:TS} {D:Ends} {σ:St} {H:Hp} (Pv:Nat->St->Hp->Prop) (h0:Pv 0 σ H) (hl:∀ i σ H,i <= xs.length->Pv i σ H->SqL K H a xs)
  (hs:∀ i x t σ H,xs[i]? = some x->H t = none->Pv i σ H->g (.ref t) σ (upd H t (.tup [.int (i:Int),x])) fun σ2 H2=>tb { D with nx:=Pv (i + 1),ct:=Pv (i + 1),bk:=D.nx } σ2 H2) (hd:∀ σ H,Pv xs.length σ H->D.nx σ H) :
  ∃ W:Nat->Nat->St->Hp->Prop,(∃ m,W 0 m σ H)/\∀ i m σ H,W i m σ H ->
   ((Itn K a).stop i H/\D.nx σ H)\/((Itn K a).go i H/\∃ N:St->Hp->Prop,(∀ σ' H',N σ' H'->∃ m',m' < m/\W (i + 1) m' σ' H')/\∀ x H',(Itn K a).yld i H x H'->g x σ H' fun σ2 H2=>tb { D with nx:=N,ct:=N,bk:=D.nx } σ2 H2):=by
 refine ⟨fun i m σ H=>m = xs.length - i/\i <= xs.length/\Pv i σ H,⟨xs.length,by simp,Nat.zero_le _,h0⟩,?_⟩
 rintro i m σ H ⟨rfl,hi,p⟩
 have q:=hl i σ H hi p
 by_cases hlt:i < xs.length
 ·refine .inr ⟨⟨xs,xs[i],q,by simp [hlt]⟩,Pv (i + 1),fun σ' H' p'=>⟨xs.length - (i + 1),by omega,rfl,hlt,p'⟩,fun x H' y=>?_⟩
  obtain ⟨t,y,ht,hy,rfl,rfl⟩:=y
  have e:=hy xs q
  exact hs i y t σ _ e ht p
 ·have e:i = xs.length:=by omega
  subst e
  exact .inl ⟨⟨xs,q,Nat.le_refl _⟩,hd σ H p⟩
end
end L2
namespace L2
open PySem PySem.Spec PyProof.Rows
end L2
namespace L2
open PySem PySem.Spec PyProof.Rows
section
variable {X:Cx} {e de:Expr} {t tk:TA} {pos p kpos:Pos}
end
end L2
set_option Elab.async false
set_option linter.all false
set_option maxRecDepth 100000
set_option maxHeartbeats 4000000
namespace L2
open PySem PySem.Spec PyProof.Rows
section
variable {prog:Program} {w:World} {A:Around} {E:Value->Shared->Prop} {s:Shared} {R:Result->Shared->Prop} {I:Addr} {fp wr:List Addr} {G:Array GenState->Array GenState->Prop} {n:Nat} {P:Nat->Value->Prop} {St:Nat->Shared->Prop}
end
section
variable {X:Cx} {p p2 pos pos2:Pos} {tg:Expr}
def AhU (ta:TA):TE:=fun σ H Q=>ta σ H fun vs H1=>∃ i j:Int,vs = [.int i,.int j]/\(-(2 ^ 62) <= i/\i < 2 ^ 62/\-(2 ^ 62) <= j/\j < 2 ^ 62)/\j - i < 16000000/\∀ l H',H1 l = none->Same H1 H'->H' l = some (.lst ((List.range (j - i).toNat).map fun (k:Nat)=>V.int (i + (k:Int))))->Q (.ref l) H'
theorem Ab0:∀ {xs:List V} {ys:List Value},xs.length = ys.length->(∀ (i:Nat) x y,xs[i]? = some x->ys[i]? = some y->RelV x y)->Vals xs ys
 | [],[],_,_=>.nil
 | x :: xs,y :: ys,l,h=>.cons (h 0 x y rfl rfl) (Ab0 (by simpa using l) fun i u v h1 h2=>h (i + 1) u v (by simpa using h1) (by simpa using h2))
 | [],_ :: _,l,_=>by simp at l
 | _ :: _,[],l,_=>by simp at l
theorem size_push (h:Heap) (o:Obj):(h.push o).objs.size = h.objs.size + 1:=by simp [Heap.push]
theorem Xb {pins:List (Addr × Obj)} {σ:St} {H:Hp} {s:Shared} {lo hi:Int} {t u v:Tok} {tk:Nat} {Q:VK} (hc:X.calm = true) (I:Inv X pins σ H s) (h1:-(2 ^ 62) <= lo) (h2:lo < 2 ^ 62) (h3:-(2 ^ 62) <= hi) (h4:hi < 2 ^ 62) (h5:hi - lo < 16000000)
  (q:∀ l H',H l = none->Same H H'->H' l = some (.lst ((List.range (hi - lo).toNat).map fun (k:Nat)=>V.int (lo + (k:Int))))->Q (.ref l) H') :
  wpAny (model X.prog X.w) X.A (call (.type "list") [.ref s.heap.objs.size]) (EP X pins σ Q) X.xe { s with heap:=s.heap.push { cls:=.type "range",data:=.fields #[.int lo t,.int hi u,.int 1 v] },toks:=tk }:=by
 have en:Builtin.Range.rangeSize lo hi 1 = (((hi - lo).toNat:Nat):Int):=by rw [rangeSize_one]; split <;> omega
 refine call_list_range (n:=(hi - lo).toNat) (I.ok.hd hc) (IsRange.new ..) (small_one h1 h2 h3 h4) en (by omega) fun h' tk' acc' c' hk hS hacc=>?_
 obtain ⟨k1,k2⟩:=hacc
 have hge:s.heap.objs.size <= (s.heap.push { cls:=.type "range",data:=.fields #[.int lo t,.int hi u,.int 1 v] }).objs.size:=by rw [size_push]; exact Nat.le_succ _
 refine ⟨.ref _,upd H _ (.lst ((List.range (hi - lo).toNat).map fun (k:Nat)=>V.int (lo + (k:Int)))),I.laid (s:=s) (h':=h') (fun b o e=>hk b o (Heap.get?_push_of_some _ e)) hge ⟨?_,acc'.toList,c',?_,by simpa using hS⟩,rfl,q _ _ (I.hok.fresh hge) (Same.laid (I.hok.fresh hge)) Bk⟩
 ·rw [List.length_map,List.length_range,sizeLine_eq]; omega
 ·refine Ab0 (by simp [k1]) fun i x y hx hy=>?_
  have hy':acc'[i]? = some y:=by simpa using hy
  obtain ⟨t',e⟩:=k2 i y hy'
  rw [List.getElem?_map] at hx
  have hi':i < (hi - lo).toNat:=by
   rw [<- k1]; exact (Array.getElem?_eq_some_iff.mp hy').1
  rw [List.getElem?_range hi'] at hx
  cases hx
  exact ⟨t',by rw [e]; simp⟩
theorem Acp {a b:Expr} {ta:TA} (hc:X.calm = true) (hgl:Gl X "list") (hml:X.mg "list" = none) (hg:Gl X "range") (hm:X.mg "range" = none) (ha:PA X [a,b] ta) (hs:starEach [a,b] X.env = [(false,eval a X.env),(false,eval b X.env)]:=by rfl) (hsb:starEach [b] X.env = [(false,eval b X.env)]:=by rfl)
  (hs2:starEach [.Call (.Name "range" p) [a,b] [] pos] X.env = [(false,eval (.Call (.Name "range" p) [a,b] [] pos) X.env)]:=by rfl) :
  PE X (.Call (.Name "list" p2) [.Call (.Name "range" p) [a,b] [] pos] [] pos2) (AhU ta):=by
 intro pins s σ H Q I h
 refine wpAny_Call_Name_kw (No I hgl hml boot_list ?_)
 refine callWith_type1 ?_ hs2 rfl
 rw [hs2]
 refine Calls.spliced_cons ?_
 refine wpAny_Call_Name_kw (No I hg hm boot_range (callWith_type1 (thn (ha pos pins s σ H _ I h) fun us s1 ⟨vs,H1,I1,r1,q1⟩=>?_) (by rw [hs,hsb]) (by rw [hsb]; rfl)))
 obtain ⟨i,j,rfl,⟨h1,h2,h3,h4⟩,h5,q⟩:=q1
 cases r1 with
 | cons r rr =>
  cases rr with
  | cons r' rr =>
   cases rr
   obtain ⟨t,rfl⟩:=r
   obtain ⟨t',rfl⟩:=r'
   exact call_range_2 (Calls.spliced_nil (Xb hc I1 h1 h2 h3 h4 h5 q))
end
end L2
set_option Elab.async false
set_option linter.all false
set_option maxRecDepth 100000
set_option maxHeartbeats 4000000
namespace L2
open PySem PySem.Spec PyProof.Rows
section
variable {X:Cx} {elts:List Expr} {x1:Nat} {tp p pos:Pos}
end
section
variable {X:Cx}
theorem Aez (hh:X.A.handled = none) (K':PySem.W.Frag) (h:X.K = K':=by rfl):Gw X (.builtin "any") (fun xs H Q=>∃ (p:Addr) (bs:List Bool),xs = [.ref p]/\SqL K' H p (bs.map V.bl)/\Q (.bl (bs.any id)) H):=by
 subst h
 intro pins s σ H xs us Q I r h
 obtain ⟨p,bs,rfl,hq,q⟩:=h
 obtain ⟨u,rfl,rx⟩:=Sv r
 cases rx
 obtain ⟨its,r',pl,hz⟩:=I.list hq
 have hlen:=r'.length
 rw [List.length_map] at hlen
 have hlt:p < s.heap.objs.size:=by obtain ⟨_,e,_⟩:=pl.isList; exact Heap.lt_size e
 refine call_any_walk (wpAny_pyIter_list pl.isList ?_)
 refine ⟨s.heap.objs.size,[s.heap.objs.size,p],[s.heap.objs.size],its.toArray.size,_,_,fun i=>(bs[i]?).getD false,rfl,Walks.list (A:=X.A.in1) hh _ p (Nat.ne_of_lt hlt) its.toArray,
  ⟨⟨_,Heap.get?_push_size _ rfl,rfl,rfl⟩,pl.isList.push _⟩,fun i v s' Q' E' hP hQ=>?_,fun h' tk hk=>?_⟩
 ·have hi:i < bs.length:=by
   have:i < its.length:=by
    have hP':its[i]? = some v:=by simpa using hP
    exact (List.getElem?_eq_some_iff.mp hP').1
   omega
  obtain ⟨u,hu,ru⟩:=r'.get (show (bs.map V.bl)[i]? = some (.bl bs[i]) by rw [List.getElem?_map,List.getElem?_eq_getElem hi]; rfl)
  have eu:u = v:=by
   have hP':its[i]? = some v:=by simpa using hP
   rw [hP'] at hu; exact (Option.some.inj hu).symm
  subst eu
  cases ru
  simp only [List.getElem?_eq_getElem hi,Option.getD_some] at hQ
  exact wpAny_truthy_bool hQ
 ·have e:((List.range its.toArray.size).any fun i=>(bs[i]?).getD false) = bs.any id:=by
   rw [Bool.eq_iff_iff,List.any_eq_true,List.any_eq_true]
   constructor
   ·rintro ⟨i,hi,h⟩
    have hi':i < bs.length:=by simp at hi; omega
    rw [List.getElem?_eq_getElem hi'] at h
    exact ⟨bs[i],List.getElem_mem hi',h⟩
   ·rintro ⟨b,hb,h⟩
    obtain ⟨i,hi,rfl⟩:=List.getElem_of_mem hb
    refine ⟨i,by simp; omega,?_⟩
    rw [List.getElem?_eq_getElem hi]
    exact h
  rw [e]
  exact ⟨.bl (bs.any id),H,I.kept (t':=tk) (fun b o e=>hk b o (fun hm=>by rw [List.mem_singleton.mp hm] at e; exact Nat.lt_irrefl _ (Heap.lt_size e)) (Heap.get?_push_of_some _ e)),rfl,q⟩
end
end L2
set_option Elab.async false
set_option linter.all false
set_option maxRecDepth 100000
set_option maxHeartbeats 4000000
namespace My
open PySem L2
def top (i:Nat):Stmt:=PySem.Challenge.pw_bothhands_k21_steps_refused.main.body.getD i (.Pass ⟨0,0,0,0⟩)
abbrev Qf:Stmt:=top 36
theorem Akj:Ca ["_law_script","_law_k"] ["_law_script","_law_k"] (Bd Qf):=⟨rfl,rfl,rfl,by decide +kernel,rfl,by decide +kernel,by decide +kernel⟩
abbrev Lv:Stmt:=top 37
theorem sc_qbg:Ca ["_law_script","_law_low","_law_step","_law_by"] ["_law_script"] (Bd Lv):=⟨rfl,rfl,rfl,by decide +kernel,rfl,by decide +kernel,by decide +kernel⟩
abbrev Lx:Stmt:=top 38
theorem sc_qbd:Ca ["_law_signs_here","_law_cell","_law_unit","_law_rows","_law_k"] ["_law_signs_here","_law_cell","_law_unit"] (Bd Lx):=⟨rfl,rfl,rfl,by decide +kernel,rfl,by decide +kernel,by decide +kernel⟩
abbrev Qe:Stmt:=top 39
theorem sc_qz:Ca ["_law_signs_here","_law_cell","_law_rows","_law_k"] ["_law_signs_here","_law_cell"] (Bd Qe):=⟨rfl,rfl,rfl,by decide +kernel,rfl,by decide +kernel,by decide +kernel⟩
abbrev Ll:Stmt:=top 40
theorem sc_qbb:Ca ["_law_rows","_law_signs_here","_law_marks_here","_law_cell","_law_joins_here","_law_k","_law_base","_law_mark"] ["_law_rows","_law_signs_here","_law_marks_here","_law_cell"] (Bd Ll):=⟨rfl,rfl,rfl,by decide +kernel,rfl,by decide +kernel,by decide +kernel⟩
abbrev Ly:Stmt:=top 41
theorem sc_qbc:Ca ["_law_script","_law_signs_here","_law_cell","_law_unit","_law_marks_here","_law_bases_here","_law_joins_here","_law_some","_law_told","_law_turn","_law_mates"] ["_law_script"] (Bd Ly):=⟨rfl,rfl,rfl,by decide +kernel,rfl,by decide +kernel,by decide +kernel⟩
abbrev Ln:Stmt:=top 43
theorem sc_qbf:Ca ["_law_lists_here","_law_ranks_here","_law_sign","_law_kind","_law_rank"] ["_law_lists_here"] (Bd Ln):=⟨rfl,rfl,rfl,by decide +kernel,rfl,by decide +kernel,by decide +kernel⟩
abbrev Lu:Stmt:=top 44
theorem sc_qbe:Ca ["_law_lists_here","_law_parts_here","_law_whole","_law_base","_law_mark"] ["_law_lists_here"] (Bd Lu):=⟨rfl,rfl,rfl,by decide +kernel,rfl,by decide +kernel,by decide +kernel⟩
abbrev Rc:Stmt:=top 45
theorem sc_qr:Ca ["_law_parts_here","_law_joined_here","_law_whole"] ["_law_parts_here"] (Bd Rc):=⟨rfl,rfl,rfl,by decide +kernel,rfl,by decide +kernel,by decide +kernel⟩
abbrev Lj:Stmt:=top 42
theorem sc_qbj:Ca ["_law_cells","_law_lists_here","_law_some","_law_marks_here","_law_pair","_law_text_here","_law_cell"] ["_law_cells","_law_lists_here"] (Bd Lj):=⟨rfl,rfl,rfl,by decide +kernel,rfl,by decide +kernel,by decide +kernel⟩
abbrev Oz:Stmt:=top 21
theorem Ako:Ca ["held","words"] ["held","words"] (Bd Oz):=⟨rfl,rfl,rfl,by decide +kernel,rfl,by decide +kernel,by decide +kernel⟩
abbrev Rn:Stmt:=top 22
theorem sc_qd:Ca ["rows","length","row"] ["rows","length"] (Bd Rn):=⟨rfl,rfl,rfl,by decide +kernel,rfl,by decide +kernel,by decide +kernel⟩
abbrev Oy:Stmt:=top 15
theorem Akt:Ca ["thing"] ["thing"] (Bd Oy):=⟨rfl,rfl,rfl,by decide +kernel,rfl,by decide +kernel,by decide +kernel⟩
abbrev Lm:Stmt:=top 16
theorem AiG:Ca ["thing"] ["thing"] (Bd Lm):=⟨rfl,rfl,rfl,by decide +kernel,rfl,by decide +kernel,by decide +kernel⟩
abbrev Lk:Stmt:=top 26
theorem AhT:Ca ["kinds","sign","kind"] ["kinds","sign","kind"] (Bd Lk):=⟨rfl,rfl,rfl,by decide +kernel,rfl,by decide +kernel,by decide +kernel⟩
abbrev Rk:Stmt:=top 23
theorem Akp:Ca ["thing"] ["thing"] (Bd Rk):=⟨rfl,rfl,rfl,by decide +kernel,rfl,by decide +kernel,by decide +kernel⟩
abbrev Qq:Stmt:=top 24
theorem Ajp:Ca ["kind","thing"] ["kind","thing"] (Bd Qq):=⟨rfl,rfl,rfl,by decide +kernel,rfl,by decide +kernel,by decide +kernel⟩
abbrev Ox:Stmt:=top 27
theorem sc_qq:Ca ["signs","mates","kinds","sign","kind","rank","first","second"] ["signs","mates"] (Bd Ox):=⟨rfl,rfl,rfl,by decide +kernel,rfl,by decide +kernel,by decide +kernel⟩
abbrev Qp:Stmt:=top 28
theorem sc_qt:Ca ["signs","ranks","sign","kind","rank"] ["signs"] (Bd Qp):=⟨rfl,rfl,rfl,by decide +kernel,rfl,by decide +kernel,by decide +kernel⟩
abbrev Qy:Stmt:=top 29
theorem sc_qy:Ca ["mates","found","first","second"] ["mates"] (Bd Qy):=⟨rfl,rfl,rfl,by decide +kernel,rfl,by decide +kernel,by decide +kernel⟩
abbrev Qg:Stmt:=top 25
theorem AjX:Ca ["kinds","sign"] ["kinds","sign"] (Bd Qg):=⟨rfl,rfl,rfl,by decide +kernel,rfl,by decide +kernel,by decide +kernel⟩
abbrev Qn:Stmt:=top 30
theorem sc_qn:Ca ["kinds","whole","base","mark","kind"] ["kinds","whole","base","mark"] (Bd Qn):=⟨rfl,rfl,rfl,by decide +kernel,rfl,by decide +kernel,by decide +kernel⟩
abbrev Qw:Stmt:=top 31
theorem sc_qe:Ca ["pairs","whole","sign","going"] ["pairs","whole"] (Bd Qw):=⟨rfl,rfl,rfl,by decide +kernel,rfl,by decide +kernel,by decide +kernel⟩
abbrev Qs:Stmt:=top 32
theorem sc_qs:Ca ["kinds","joins","pairs","whole","base","mark"] ["kinds","joins"] (Bd Qs):=⟨rfl,rfl,rfl,by decide +kernel,rfl,by decide +kernel,by decide +kernel⟩
abbrev Rj:Stmt:=top 33
theorem sc_ql:Ca ["pairs","wholes","whole","pair"] ["pairs"] (Bd Rj):=⟨rfl,rfl,rfl,by decide +kernel,rfl,by decide +kernel,by decide +kernel⟩
abbrev Re:Stmt:=Ot (top 34) 0
theorem Ajx:Ca ["self","signs","mates","joins"] ["self","signs","mates","joins"] (Bd Re):=⟨rfl,rfl,rfl,by decide +kernel,rfl,by decide +kernel,by decide +kernel⟩
abbrev Lw:Stmt:=top 46
theorem sc_qba:Ca ["_law_text_here","_law_ranks_here","_law_parts_here","_law_joined_here","_law_some","_law_before","_law_k","_law_sign","_law_rank"] ["_law_text_here","_law_ranks_here","_law_parts_here","_law_joined_here"] (Bd Lw):=⟨rfl,rfl,rfl,by decide +kernel,rfl,by decide +kernel,by decide +kernel⟩
abbrev Qu:Stmt:=Ot (top 34) 1
theorem Aj7:Ca ["self","sign"] ["self","sign"] (Bd Qu):=⟨rfl,rfl,rfl,by decide +kernel,rfl,by decide +kernel,by decide +kernel⟩
abbrev Qx:Stmt:=Ot (top 34) 2
theorem AjB:Ca ["self","sign"] ["self","sign"] (Bd Qx):=⟨rfl,rfl,rfl,by decide +kernel,rfl,by decide +kernel,by decide +kernel⟩
abbrev Lz:Stmt:=top 9
theorem sc_qbm:Ca ["book","pair","first","second"] ["book","pair"] (Bd Lz):=⟨rfl,rfl,rfl,by decide +kernel,rfl,by decide +kernel,by decide +kernel⟩
abbrev Qz:Stmt:=Ot (top 34) 4
theorem Aka:Ca ["self","sign"] ["self","sign"] (Bd Qz):=⟨rfl,rfl,rfl,by decide +kernel,rfl,by decide +kernel,by decide +kernel⟩
abbrev Ls:Stmt:=top 10
theorem sc_qbl:Ca ["book","sign","pair"] ["book","sign"] (Bd Ls):=⟨rfl,rfl,rfl,by decide +kernel,rfl,by decide +kernel,by decide +kernel⟩
abbrev Rl:Stmt:=Ot (top 34) 5
theorem Aj6:Ca ["self","base","mark"] ["self","base","mark"] (Bd Rl):=⟨rfl,rfl,rfl,by decide +kernel,rfl,by decide +kernel,by decide +kernel⟩
abbrev Rh:Stmt:=top 11
theorem sc_qb:Ca ["book","pair","whole"] ["book","pair"] (Bd Rh):=⟨rfl,rfl,rfl,by decide +kernel,rfl,by decide +kernel,by decide +kernel⟩
abbrev Rb:Stmt:=top 12
theorem Akd:Ca ["book","word","taken"] ["book","word","taken"] (Bd Rb):=⟨rfl,rfl,rfl,by decide +kernel,rfl,by decide +kernel,by decide +kernel⟩
abbrev Lp:Stmt:=top 13
theorem sc_qbh:Ca ["book","text","step","word","start","end"] ["book","text","step"] (Bd Lp):=⟨rfl,rfl,rfl,by decide +kernel,rfl,by decide +kernel,by decide +kernel⟩
abbrev Qv:Stmt:=top 48
theorem sc_qj:Ca ["_law_book","_law_text_here","_law_step","_law_marks_here","_law_others","e"] ["_law_book","_law_text_here","_law_step"] (Bd Qv):=⟨rfl,rfl,rfl,by decide +kernel,rfl,by decide +kernel,by decide +kernel⟩
abbrev Qk:Stmt:=top 47
theorem sc_qk:Ca ["_law_text_here","_law_step","_law_parts_here","_law_joined_here","_law_word","_law_k"] ["_law_text_here","_law_step","_law_parts_here","_law_joined_here"] (Bd Qk):=⟨rfl,rfl,rfl,by decide +kernel,rfl,by decide +kernel,by decide +kernel⟩
abbrev Gv:Stmt:=top 49
theorem sc_qbo:Ca ["_law_script","_law_lists_here","_law_ranks_here","_law_parts_here","_law_joined_here","_law_text_here","_law_book","_law_borne","_law_far","_law_handed","_law_k","_law_word","_law_whole"] ["_law_script"] (Bd Gv):=⟨rfl,rfl,rfl,by decide +kernel,rfl,by decide +kernel,by decide +kernel⟩
structure Adr where
 f_qi:Addr
 d_qi:FuncData
 f_qbg:Addr
 d_qbg:FuncData
 f_qbd:Addr
 d_qbd:FuncData
 f_qz:Addr
 d_qz:FuncData
 f_qbb:Addr
 d_qbb:FuncData
 f_qbc:Addr
 d_qbc:FuncData
 f_qbf:Addr
 d_qbf:FuncData
 f_qbe:Addr
 d_qbe:FuncData
 f_qr:Addr
 d_qr:FuncData
 f_qbj:Addr
 d_qbj:FuncData
 f_qc:Addr
 d_qc:FuncData
 f_qd:Addr
 d_qd:FuncData
 f_qa:Addr
 d_qa:FuncData
 f_qbk:Addr
 d_qbk:FuncData
 f_qbi:Addr
 d_qbi:FuncData
 f_qf:Addr
 d_qf:FuncData
 f_qo:Addr
 d_qo:FuncData
 f_qq:Addr
 d_qq:FuncData
 f_qt:Addr
 d_qt:FuncData
 f_qy:Addr
 d_qy:FuncData
 f_qp:Addr
 d_qp:FuncData
 f_qn:Addr
 d_qn:FuncData
 f_qe:Addr
 d_qe:FuncData
 f_qs:Addr
 d_qs:FuncData
 f_ql:Addr
 d_ql:FuncData
 f_qu:Addr
 d_qu:FuncData
 f_qba:Addr
 d_qba:FuncData
 f_qv:Addr
 d_qv:FuncData
 f_qx:Addr
 d_qx:FuncData
 f_qbm:Addr
 d_qbm:FuncData
 f_qm:Addr
 d_qm:FuncData
 f_qbl:Addr
 d_qbl:FuncData
 f_qh:Addr
 d_qh:FuncData
 f_qb:Addr
 d_qb:FuncData
 f_qg:Addr
 d_qg:FuncData
 f_qbh:Addr
 d_qbh:FuncData
 f_qj:Addr
 d_qj:FuncData
 f_qk:Addr
 d_qk:FuncData
 f_qbo:Addr
 d_qbo:FuncData
 C_Book:Addr
 a_JOINED_KINDS:Addr
 a_TOLD_KINDS:Addr
 C_HandsError:Addr
 C_NoBook:Addr
 C_NoPlace:Addr
 C_NoStep:Addr
 C_NoWhat:Addr
 C_NoWidth:Addr
structure Txt (K:PySem.W.Frag) (mg:Str->Option Value) (t:Adr):Prop where
 F_qi:Fun K "_law_cell_at" "_law_cell_at" Qf t.f_qi t.d_qi
 m_qi:mg "_law_cell_at" = some (.ref t.f_qi)
 F_qbg:Fun K "_law_signs" "_law_signs" Lv t.f_qbg t.d_qbg
 m_qbg:mg "_law_signs" = some (.ref t.f_qbg)
 F_qbd:Fun K "_law_marks" "_law_marks" Lx t.f_qbd t.d_qbd
 m_qbd:mg "_law_marks" = some (.ref t.f_qbd)
 F_qz:Fun K "_law_bases" "_law_bases" Qe t.f_qz t.d_qz
 m_qz:mg "_law_bases" = some (.ref t.f_qz)
 F_qbb:Fun K "_law_joins" "_law_joins" Ll t.f_qbb t.d_qbb
 m_qbb:mg "_law_joins" = some (.ref t.f_qbb)
 F_qbc:Fun K "_law_lists" "_law_lists" Ly t.f_qbc t.d_qbc
 m_qbc:mg "_law_lists" = some (.ref t.f_qbc)
 F_qbf:Fun K "_law_ranks" "_law_ranks" Ln t.f_qbf t.d_qbf
 m_qbf:mg "_law_ranks" = some (.ref t.f_qbf)
 F_qbe:Fun K "_law_parts" "_law_parts" Lu t.f_qbe t.d_qbe
 m_qbe:mg "_law_parts" = some (.ref t.f_qbe)
 F_qr:Fun K "_law_joined" "_law_joined" Rc t.f_qr t.d_qr
 m_qr:mg "_law_joined" = some (.ref t.f_qr)
 F_qbj:Fun K "_law_text" "_law_text" Lj t.f_qbj t.d_qbj
 m_qbj:mg "_law_text" = some (.ref t.f_qbj)
 F_qc:Fun K "refuse_unless" "refuse_unless" Oz t.f_qc t.d_qc
 m_qc:mg "refuse_unless" = some (.ref t.f_qc)
 F_qd:Fun K "check_tuples" "check_tuples" Rn t.f_qd t.d_qd
 m_qd:mg "check_tuples" = some (.ref t.f_qd)
 F_qa:Fun K "is_whole_number" "is_whole_number" Oy t.f_qa t.d_qa
 m_qa:mg "is_whole_number" = some (.ref t.f_qa)
 F_qbk:Fun K "is_sign" "is_sign" Lm t.f_qbk t.d_qbk
 m_qbk:mg "is_sign" = some (.ref t.f_qbk)
 F_qbi:Fun K "add_kind" "add_kind" Lk t.f_qbi t.d_qbi
 m_qbi:mg "add_kind" = some (.ref t.f_qbi)
 F_qf:Fun K "is_told_kind" "is_told_kind" Rk t.f_qf t.d_qf
 m_qf:mg "is_told_kind" = some (.ref t.f_qf)
 F_qo:Fun K "is_rank_of" "is_rank_of" Qq t.f_qo t.d_qo
 m_qo:mg "is_rank_of" = some (.ref t.f_qo)
 F_qq:Fun K "kinds_told" "kinds_told" Ox t.f_qq t.d_qq
 m_qq:mg "kinds_told" = some (.ref t.f_qq)
 F_qt:Fun K "ranks_told" "ranks_told" Qp t.f_qt t.d_qt
 m_qt:mg "ranks_told" = some (.ref t.f_qt)
 F_qy:Fun K "both_ways" "both_ways" Qy t.f_qy t.d_qy
 m_qy:mg "both_ways" = some (.ref t.f_qy)
 F_qp:Fun K "kind_among" "kind_among" Qg t.f_qp t.d_qp
 m_qp:mg "kind_among" = some (.ref t.f_qp)
 F_qn:Fun K "check_join" "check_join" Qn t.f_qn t.d_qn
 m_qn:mg "check_join" = some (.ref t.f_qn)
 F_qe:Fun K "ends_in_time" "ends_in_time" Qw t.f_qe t.d_qe
 m_qe:mg "ends_in_time" = some (.ref t.f_qe)
 F_qs:Fun K "pairs_told" "pairs_told" Qs t.f_qs t.d_qs
 m_qs:mg "pairs_told" = some (.ref t.f_qs)
 F_ql:Fun K "wholes_told" "wholes_told" Rj t.f_ql t.d_ql
 m_ql:mg "wholes_told" = some (.ref t.f_ql)
 F_qu:Fun K "__init__" "Book.__init__" Re t.f_qu t.d_qu
 F_qba:Fun K "_law_bears" "_law_bears" Lw t.f_qba t.d_qba
 m_qba:mg "_law_bears" = some (.ref t.f_qba)
 F_qv:Fun K "kind" "Book.kind" Qu t.f_qv t.d_qv
 M_qv:Vp K t.C_Book "kind" t.f_qv
 F_qx:Fun K "rank" "Book.rank" Qx t.f_qx t.d_qx
 M_qx:Vp K t.C_Book "rank" t.f_qx
 F_qbm:Fun K "turned" "turned" Lz t.f_qbm t.d_qbm
 m_qbm:mg "turned" = some (.ref t.f_qbm)
 F_qm:Fun K "parts" "Book.parts" Qz t.f_qm t.d_qm
 M_qm:Vp K t.C_Book "parts" t.f_qm
 F_qbl:Fun K "opened" "opened" Ls t.f_qbl t.d_qbl
 m_qbl:mg "opened" = some (.ref t.f_qbl)
 F_qh:Fun K "joined" "Book.joined" Rl t.f_qh t.d_qh
 M_qh:Vp K t.C_Book "joined" t.f_qh
 F_qb:Fun K "joined_to_one" "joined_to_one" Rh t.f_qb t.d_qb
 m_qb:mg "joined_to_one" = some (.ref t.f_qb)
 F_qg:Fun K "put_in_place" "put_in_place" Rb t.f_qg t.d_qg
 m_qg:mg "put_in_place" = some (.ref t.f_qg)
 F_qbh:Fun K "step_done" "step_done" Lp t.f_qbh t.d_qbh
 m_qbh:mg "step_done" = some (.ref t.f_qbh)
 F_qj:Fun K "_law_refused" "_law_refused" Qv t.f_qj t.d_qj
 m_qj:mg "_law_refused" = some (.ref t.f_qj)
 F_qk:Fun K "_law_stepped" "_law_stepped" Qk t.f_qk t.d_qk
 m_qk:mg "_law_stepped" = some (.ref t.f_qk)
 F_qbo:Fun K "law" "law" Gv t.f_qbo t.d_qbo
 m_qbo:mg "law" = some (.ref t.f_qbo)
 m_Book:mg "Book" = some (.ref t.C_Book)
 cl_Book:Cls K t.C_Book
 K_Book:Mk K t.C_Book t.f_qu
 n_Book_kinds:NoAttr K t.C_Book "kinds"
 n_Book_ranks:NoAttr K t.C_Book "ranks"
 n_Book_mates:NoAttr K t.C_Book "mates"
 n_Book_pairs:NoAttr K t.C_Book "pairs"
 n_Book_wholes:NoAttr K t.C_Book "wholes"
 m_HandsError:mg "HandsError" = some (.ref t.C_HandsError)
 x_HandsError:PySem.W.excIn K t.C_HandsError [.type "ValueError",.type "Exception",.type "BaseException",.type "object"] "ValueError.__new__" = true
 m_NoBook:mg "NoBook" = some (.ref t.C_NoBook)
 x_NoBook:PySem.W.excIn K t.C_NoBook [.type "ValueError",.type "Exception",.type "BaseException",.type "object"] "ValueError.__new__" = true
 m_NoPlace:mg "NoPlace" = some (.ref t.C_NoPlace)
 x_NoPlace:PySem.W.excIn K t.C_NoPlace [.type "ValueError",.type "Exception",.type "BaseException",.type "object"] "ValueError.__new__" = true
 m_NoStep:mg "NoStep" = some (.ref t.C_NoStep)
 x_NoStep:PySem.W.excIn K t.C_NoStep [.type "ValueError",.type "Exception",.type "BaseException",.type "object"] "ValueError.__new__" = true
 m_NoWhat:mg "NoWhat" = some (.ref t.C_NoWhat)
 x_NoWhat:PySem.W.excIn K t.C_NoWhat [.type "ValueError",.type "Exception",.type "BaseException",.type "object"] "ValueError.__new__" = true
 m_NoWidth:mg "NoWidth" = some (.ref t.C_NoWidth)
 x_NoWidth:PySem.W.excIn K t.C_NoWidth [.type "ValueError",.type "Exception",.type "BaseException",.type "object"] "ValueError.__new__" = true
 r_NoStep_HandsError:PySem.W.mroIn K t.C_NoStep (.ref t.C_HandsError) = some true
 N_NoStep:Ra K t.C_NoStep
 i_NoStep_NoStep:PySem.W.kitOne K (.ref t.C_NoStep) (.ref t.C_NoStep) = some true
 i_NoStep_ValueError:PySem.W.kitOne K (.ref t.C_NoStep) (.type "ValueError") = some true
 i_NoStep_NoBook:PySem.W.kitOne K (.ref t.C_NoStep) (.ref t.C_NoBook) = some false
 i_NoStep_NoPlace:PySem.W.kitOne K (.ref t.C_NoStep) (.ref t.C_NoPlace) = some false
 i_NoStep_NoWhat:PySem.W.kitOne K (.ref t.C_NoStep) (.ref t.C_NoWhat) = some false
 i_NoStep_NoWidth:PySem.W.kitOne K (.ref t.C_NoStep) (.ref t.C_NoWidth) = some false
 z_ValueError:mg "ValueError" = none
 z_any:mg "any" = none
 z_bool:mg "bool" = none
 z_enumerate:mg "enumerate" = none
 z_int:mg "int" = none
 z_isinstance:mg "isinstance" = none
 z_len:mg "len" = none
 z_list:mg "list" = none
 z_range:mg "range" = none
 z_sorted:mg "sorted" = none
 z_str:mg "str" = none
 z_tuple:mg "tuple" = none
 g_JOINED_KINDS:mg "JOINED_KINDS" = some (.ref t.a_JOINED_KINDS)
 q_JOINED_KINDS:∀ H,SqT K H t.a_JOINED_KINDS [.str "fore",.str "back",.str "num",.str "blank",.str "plain"]
 g_MOST_GOINGS:∃ u,mg "MOST_GOINGS" = some u/\RelV (.int 7) u
 g_TOLD_KINDS:mg "TOLD_KINDS" = some (.ref t.a_TOLD_KINDS)
 q_TOLD_KINDS:∀ H,SqT K H t.a_TOLD_KINDS [.str "fore",.str "back",.str "num",.str "blank",.str "mark",.str "forein",.str "backin",.str "out"]
abbrev Sg:=Int × Str × Int
def toldK:List Str:=["fore","back","num","blank","mark","forein","backin","out"]
def Va (k:Str) (r:Int):Prop:=(k = "mark"/\1 <= r)\/(¬ k = "mark"/\r = 0)
def TripAt (H:Hp) (x:V) (s:Sg):Prop:=∃ p,x = .ref p/\H p = some (.tup [.int s.1,.str s.2.1,.int s.2.2])
def PairAt (H:Hp) (x:V) (m:Int × Int):Prop:=∃ p,x = .ref p/\H p = some (.tup [.int m.1,.int m.2])
def LAt {β α:Type} (R:Hp->β->α->Prop) (H:Hp) (xs:List β) (ys:List α):Prop:=xs.length = ys.length/\∀ (i:Nat) (x:β) (y:α),xs[i]? = some x->ys[i]? = some y->R H x y
theorem LAt.get {β α:Type} {R:Hp->β->α->Prop} {H:Hp} {xs:List β} {ys:List α} (h:LAt R H xs ys) {i:Nat} {x:β} (e:xs[i]? = some x):∃ y,ys[i]? = some y/\R H x y:=by
 have hi:i < xs.length:=(List.getElem?_eq_some_iff.mp e).1
 have hy:i < ys.length:=by rw [<- h.1]; exact hi
 exact ⟨ys[i],List.getElem?_eq_getElem hy,h.2 i x _ e (List.getElem?_eq_getElem hy)⟩
theorem LAt.mono {β α:Type} {R R':Hp->β->α->Prop} {H H':Hp} {xs:List β} {ys:List α} (h:LAt R H xs ys) (m:∀ x y,R H x y->R' H' x y):LAt R' H' xs ys:=⟨h.1,fun i x y e1 e2=>m x y (h.2 i x y e1 e2)⟩
theorem LAt.snoc {β α:Type} {R:Hp->β->α->Prop} {H:Hp} {xs:List β} {ys:List α} {x:β} {y:α} (h:LAt R H xs ys) (r:R H x y):LAt R H (xs ++ [x]) (ys ++ [y]):=by
 refine ⟨by simp [h.1],fun i u v e1 e2=>?_⟩
 by_cases hi:i < xs.length
 ·rw [List.getElem?_append_left hi] at e1
  rw [List.getElem?_append_left (by rw [<- h.1]; exact hi)] at e2
  exact h.2 i u v e1 e2
 ·rw [List.getElem?_append_right (by omega)] at e1
  rw [List.getElem?_append_right (by rw [<- h.1]; omega),<- h.1] at e2
  have hz:i - xs.length = 0:=by
   have:=(List.getElem?_eq_some_iff.mp e1).1
   simp at this; omega
  rw [hz] at e1 e2
  simp at e1 e2
  rw [<- e1,<- e2]; exact r
theorem LAt.nil {β α:Type} {R:Hp->β->α->Prop} {H:Hp}:LAt R H ([]:List β) ([]:List α):=⟨rfl,fun i x y e=>by simp at e⟩
structure Xj (s:Sg):Prop where
 nn:0 <= s.1
 kd:s.2.1 ∈ toldK
 rk:Va s.2.1 s.2.2
def kK (signs:List Sg):List (Key × V):=signs.map fun s=>(.inl s.1,.str s.2.1)
def kR (signs:List Sg):List (Key × V):=signs.map fun s=>(.inl s.1,.int s.2.2)
def kM:List (Int × Int)->List (Key × V)
 | []=>[]
 | m :: r=>(.inl m.1,.str "open") :: (.inl m.2,.str "shut") :: kM r
def kB:List (Int × Int)->List (Key × V)
 | []=>[]
 | m :: r=>(.inl m.1,.int m.2) :: (.inl m.2,.int m.1) :: kB r
def ends:List (Int × Int)->List Int
 | []=>[]
 | m :: r=>m.1 :: m.2 :: ends r
theorem Wf (xs ys:List (Int × Int)):kM (xs ++ ys) = kM xs ++ kM ys:=by
 induction xs with
 | nil=>rfl
 | cons x r ih=>simp [kM,ih]
theorem We (xs ys:List (Int × Int)):kB (xs ++ ys) = kB xs ++ kB ys:=by
 induction xs with
 | nil=>rfl
 | cons x r ih=>simp [kB,ih]
theorem AaK (xs:List (Int × Int)):(kM xs).map (·.1) = (ends xs).map Sum.inl:=by
 induction xs with
 | nil=>rfl
 | cons x r ih=>simp [kM,ends,ih]
theorem AgF (xs:List (Int × Int)):(kB xs).map (·.1) = (ends xs).map Sum.inl:=by
 induction xs with
 | nil=>rfl
 | cons x r ih=>simp [kB,ends,ih]
theorem Ah3 (xs:List (Int × Int)):(kM xs).length = 2 * xs.length:=by
 induction xs with
 | nil=>rfl
 | cons x r ih=>simp [kM,ih]; omega
theorem Ahk (xs:List (Int × Int)):(kB xs).length = 2 * xs.length:=by
 induction xs with
 | nil=>rfl
 | cons x r ih=>simp [kB,ih]; omega
theorem Je {kvs:List (Key × V)} {n:Int} (h:¬ (Sum.inl n:Key) ∈ kvs.map (·.1)):Cd kvs (Sum.inl n) = none:=by
 cases e:Cd kvs (Sum.inl n:Key) with
 | none=>rfl
 | some v=>exact absurd (AaB e) h
theorem Ya {kvs:List (Key × V)} (nd:(kvs.map (·.1)).Nodup) {k:Key} {v:V} (h:(k,v) ∈ kvs):Cd kvs k = some v:=by
 induction kvs with
 | nil=>cases h
 | cons p r ih =>
  have nd':(p.1 :: r.map (·.1)).Nodup:=nd
  obtain ⟨h1,h2⟩:=List.nodup_cons.mp nd'
  rcases List.mem_cons.mp h with e | e
  ·subst e; exact Jd rfl
  ·have:¬ p.1 = k:=fun z=>h1 (by rw [z]; exact List.mem_map.mpr ⟨_,e,rfl⟩)
   rw [Jb this]; exact ih h2 e
theorem Lf {l:List Int} (h:l.Nodup):(l.map (Sum.inl:Int->Key)).Nodup:=by
 induction l with
 | nil=>exact List.nodup_nil
 | cons a r ih =>
  obtain ⟨h1,h2⟩:=List.nodup_cons.mp h
  refine List.nodup_cons.mpr ⟨fun m=>h1 ?_,ih h2⟩
  obtain ⟨b,hb,e⟩:=List.mem_map.mp m
  cases e; exact hb
theorem inl_mem {l:List Int} {n:Int}:(Sum.inl n:Key) ∈ l.map (Sum.inl:Int->Key) ↔ n ∈ l:=by
 constructor
 ·intro m; obtain ⟨b,hb,e⟩:=List.mem_map.mp m; cases e; exact hb
 ·intro m; exact List.mem_map.mpr ⟨n,m,rfl⟩
theorem Fh {n:Nat} (h:n <= 1000):n < sizeLine:=Jf h
theorem Dj {α:Type} {l:List α} {i:Nat} {x:α} (h:l[i]? = some x):l.take (i + 1) = l.take i ++ [x]:=by
 obtain ⟨hi,e⟩:=List.getElem?_eq_some_iff.mp h
 rw [List.take_add_one,List.getElem?_eq_getElem hi,e]
 rfl
theorem Same.new {d:Addr} {H:Hp} {o:HO} (h:H d = none):Same H (upd H d o):=fun q u e=>by rw [Bg (Bn e h)]; exact e
theorem TripAt.mono {H H':Hp} {x:V} {s:Sg} (h:TripAt H x s) (k:∀ q xs,H q = some (.tup xs)->H' q = some (.tup xs)):TripAt H' x s:=by
 obtain ⟨p,e,hp⟩:=h
 exact ⟨p,e,k p _ hp⟩
theorem PairAt.mono {H H':Hp} {x:V} {s:Int × Int} (h:PairAt H x s) (k:∀ q xs,H q = some (.tup xs)->H' q = some (.tup xs)):PairAt H' x s:=by
 obtain ⟨p,e,hp⟩:=h
 exact ⟨p,e,k p _ hp⟩
theorem Cg {CX:CXT} {P:Program} {w:World} {K:PySem.W.Frag} {mg:Str->Option Value} {base:Heap} {N:List Str} {qual:Str} {sc:Scope} {f:Addr} {cd:Value} {A:Around} {outer:List Env} {s:Shared} {H:Hp} {E:XK}:(Ju CX P w K mg base N qual sc f cd A outer s H E).K = K:=rfl
section
variable {σ:St} {H:Hp} {Q:VK} {K:PySem.W.Frag} {a d:Addr} {n:Int}
theorem Aa7 {A B:Prop} (h:B):if (!true) = true then A else B:=Nt h
theorem Abq {A B:Prop} (h:A):if (!false) = true then A else B:=Lh h
theorem Aer {P:Bool->Prop} (q:P true):∃ x m t b,[V.int n,V.ty "int"] = [x,V.ty m]/\Gf K H x t/\PySem.W.kitOne K t (.type m) = some b/\P b:=⟨_,_,_,_,rfl,.int n,Aah,q⟩
theorem AcX {P:Bool->Prop} (q:P false):∃ x m t b,[V.int n,V.ty "bool"] = [x,V.ty m]/\Gf K H x t/\PySem.W.kitOne K t (.type m) = some b/\P b:=⟨_,_,_,_,rfl,.int n,Yb,q⟩
theorem AeU {z:Str} {P:Bool->Prop} (q:P true):∃ x m t b,[V.str z,V.ty "str"] = [x,V.ty m]/\Gf K H x t/\PySem.W.kitOne K t (.type m) = some b/\P b:=⟨_,_,_,_,rfl,.str z,Aae,q⟩
theorem Ais {xs:List V} (h:H a = some (.lst xs)) {P:Bool->Prop} (q:P true):∃ x m t b,[V.ref a,V.ty "list"] = [x,V.ty m]/\Gf K H x t/\PySem.W.kitOne K t (.type m) = some b/\P b:=⟨_,_,_,_,rfl,.lst h,Xa,q⟩
theorem AjZ {xs:List V} (h:H a = some (.tup xs)) {P:Bool->Prop} (q:P true):∃ x m t b,[V.ref a,V.ty "tuple"] = [x,V.ty m]/\Gf K H x t/\PySem.W.kitOne K t (.type m) = some b/\P b:=⟨_,_,_,_,rfl,.tup h,Aaf,q⟩
theorem Acn {xs:List V} (h:SqL K H a xs) {P:List V->Prop} (q:P xs):∃ p ys,[V.ref a] = [V.ref p]/\(SqL K H p ys\/SqT K H p ys)/\P ys:=⟨a,xs,rfl,.inl h,q⟩
theorem AiP {xs:List V} (h:H a = some (.tup xs)) {P:List V->Prop} (q:P xs):∃ p ys,[V.ref a] = [V.ref p]/\(SqL K H p ys\/SqT K H p ys)/\P ys:=⟨a,xs,rfl,.inr (SqT.of h),q⟩
theorem Akn {kvs:List (Key × V)} (h:H d = some (.dK kvs)) {P:Option V->Prop} (q:P (Cd kvs (.inl n))):∃ a o,V.ref d = V.ref a/\DGet H a (.int n) o/\P o:=⟨d,_,rfl,DGet.k (k:=Sum.inl n) h,q⟩
theorem Aca {kvs:List (Key × V)} {v:V} {R:Hp->Prop} (h:H d = some (.dK kvs)) (q:R (upd H d (.dK (Gg kvs (.inl n) v)))) (hl:kvs.length < sizeLine):∃ a H4,V.ref d = V.ref a/\DPut H a (.int n) v H4/\R H4:=⟨d,_,rfl,DPut.k (k:=Sum.inl n) h hl,q⟩
theorem Ajv {kvs:List (Key × V)} {P:Addr->Prop} (h:H d = some (.dK kvs)) (q:P d):∃ a,V.ref d = V.ref a/\IsD H a/\P a:=⟨d,rfl,.inl ⟨_,.inl h⟩,q⟩
theorem Aih {kvs:List (Key × V)} {P:Option V->Prop} (h:H d = some (.dK kvs)) (q:P (Cd kvs (.inl n))):∃ o,DGet H d (.int n) o/\P o:=⟨_,DGet.k (k:=Sum.inl n) h,q⟩
theorem Ajt {P:Prop} {xs:List V} (h:H a = some (.lst xs)) (q:P):tyV K "list" (.ref a) H/\P:=⟨.inl ⟨rfl,_,SqL.of h⟩,q⟩
theorem Ga {xs:List V} {i:Int} {v:V} (h:SqL K H a xs) (q:Q v H) (hv:atI xs i = some v):AbU K (.ref a) (.int i) H Q:=⟨a,xs,i,v,rfl,rfl,h,hv,q⟩
theorem Tc {xs:List V} {i:Int} {v:V} (h:H a = some (.tup xs)) (q:Q v H) (hv:atI xs i = some v):AbE K (.ref a) (.int i) H Q:=⟨a,xs,i,v,rfl,rfl,SqT.of h,hv,q⟩
theorem AgX:LEq K H [] [] true:=.inr ⟨rfl,fun _=>true,fun i x y e1=>by simp at e1,rfl⟩
theorem Ajn {b:Addr} {xs ys:List V} {k:Bool} (h1:SqL K H a xs) (h2:SqL K H b ys) (hk:LEq K H xs ys k) (q:Q (.bl k) H):Vn K false (.ref a) (.ref b) H Q:=⟨a,b,xs,ys,k,rfl,rfl,h1,h2,hk,q⟩
end
section
variable {S:List Sg} {M:List (Int × Int)} {s:Sg} {m:Int × Int} {n:Int}
theorem Ag5 (s:List Sg):(kK s).map (·.1) = (s.map (·.1)).map Sum.inl:=by simp [kK]
theorem AaU (s:List Sg):(kR s).map (·.1) = (s.map (·.1)).map Sum.inl:=by simp [kR]
theorem Aaj:(kK S ++ kM M).map (·.1) = (S.map (·.1) ++ ends M).map (Sum.inl:Int->Key):=by rw [List.map_append,Ag5,AaK,<- List.map_append]
theorem Aj2 (nd:(S.map (·.1) ++ ends M).Nodup):((kK S ++ kM M).map (·.1)).Nodup:=by rw [Aaj]; exact Lf nd
theorem Aar (nd:(S.map (·.1) ++ ends M).Nodup) (h:s ∈ S):(Cd (kK S ++ kM M) (Sum.inl s.1)).getD (.str "plain") = .str s.2.1:=by
 rw [Ya (v:=.str s.2.1) (Aj2 nd) (List.mem_append_left _ (List.mem_map.mpr ⟨s,h,rfl⟩))]; rfl
theorem Ajb (h:¬ n ∈ S.map (·.1) ++ ends M):(Cd (kK S ++ kM M) (Sum.inl n)).getD (.str "plain") = .str "plain":=by
 rw [Je (by rw [Aaj]; exact fun w=>h (inl_mem.mp w))]; rfl
theorem Ai1 (h:¬ n ∈ S.map (·.1)):(Cd (kR S) (Sum.inl n)).getD (.int 0) = .int 0:=by
 rw [Je (by rw [AaU]; exact fun w=>h (inl_mem.mp w))]; rfl
end
abbrev Jn:=Int × Int × Int
def joinedK:List Str:=["fore","back","num","blank","plain"]
def TrjAt (H:Hp) (x:V) (j:Jn):Prop:=∃ p,x = .ref p/\H p = some (.tup [.int j.1,.int j.2.1,.int j.2.2])
def KvAt (H:Hp) (kv:Key × V) (j:Jn):Prop:=kv.1 = Sum.inl j.1/\∃ p,kv.2 = .ref p/\H p = some (.tup [.int j.2.1,.int j.2.2])
theorem TrjAt.mono {H H':Hp} {x:V} {j:Jn} (h:TrjAt H x j) (k:∀ q xs,H q = some (.tup xs)->H' q = some (.tup xs)):TrjAt H' x j:=by
 obtain ⟨p,e,hp⟩:=h
 exact ⟨p,e,k p _ hp⟩
theorem KvAt.mono {H H':Hp} {x:Key × V} {j:Jn} (h:KvAt H x j) (k:∀ q xs,H q = some (.tup xs)->H' q = some (.tup xs)):KvAt H' x j:=by
 obtain ⟨e1,p,e,hp⟩:=h
 exact ⟨e1,p,e,k p _ hp⟩
theorem LAt.tripS {H H':Hp} {xs:List V} {S:List Sg} (h:LAt TripAt H xs S) (s:Same H H'):LAt TripAt H' xs S:=h.mono fun _ _ z=>z.mono fun _ _ e=>s _ _ e
theorem LAt.pairS {H H':Hp} {xs:List V} {S:List (Int × Int)} (h:LAt PairAt H xs S) (s:Same H H'):LAt PairAt H' xs S:=h.mono fun _ _ z=>z.mono fun _ _ e=>s _ _ e
theorem LAt.trjS {H H':Hp} {xs:List V} {S:List Jn} (h:LAt TrjAt H xs S) (s:Same H H'):LAt TrjAt H' xs S:=h.mono fun _ _ z=>z.mono fun _ _ e=>s _ _ e
theorem LAt.kvS {H H':Hp} {xs:List (Key × V)} {S:List Jn} (h:LAt KvAt H xs S) (s:Same H H'):LAt KvAt H' xs S:=h.mono fun _ _ z=>z.mono fun _ _ e=>s _ _ e
theorem LAt.tripC {H H':Hp} {a:Addr} {zs xs:List V} {S:List Sg} (h:LAt TripAt H xs S) (c:Chg a H H') (ha:H a = some (.lst zs)):LAt TripAt H' xs S:=h.mono fun _ _ z=>z.mono fun _ _ e=>c.tup ha e
theorem LAt.trjC {H H':Hp} {a:Addr} {zs xs:List V} {S:List Jn} (h:LAt TrjAt H xs S) (c:Chg a H H') (ha:H a = some (.lst zs)):LAt TrjAt H' xs S:=h.mono fun _ _ z=>z.mono fun _ _ e=>c.tup ha e
theorem LAt.take {β α:Type} {R:Hp->β->α->Prop} {H:Hp} {xs:List β} {ys:List α} (h:LAt R H xs ys) (n:Nat):LAt R H (xs.take n) (ys.take n) :=
 ⟨by rw [List.length_take,List.length_take,h.1],fun i x y e1 e2=>by
  rw [List.getElem?_take] at e1 e2
  split at e1
  ·rename_i hi
   rw [if_pos hi] at e2
   exact h.2 i x y e1 e2
  ·cases e1⟩
theorem LAt.drop {β α:Type} {R:Hp->β->α->Prop} {H:Hp} {xs:List β} {ys:List α} (h:LAt R H xs ys) (n:Nat):LAt R H (xs.drop n) (ys.drop n) :=
 ⟨by rw [List.length_drop,List.length_drop,h.1],fun i x y e1 e2=>by
  rw [List.getElem?_drop] at e1 e2
  exact h.2 _ x y e1 e2⟩
theorem LAt.append {β α:Type} {R:Hp->β->α->Prop} {H:Hp} {xs xs':List β} {ys ys':List α} (h:LAt R H xs ys) (h':LAt R H xs' ys'):LAt R H (xs ++ xs') (ys ++ ys') :=
 ⟨by rw [List.length_append,List.length_append,h.1,h'.1],fun i x y e1 e2=>by
  by_cases hi:i < xs.length
  ·rw [List.getElem?_append_left hi] at e1
   rw [List.getElem?_append_left (by rw [<- h.1]; exact hi)] at e2
   exact h.2 i x y e1 e2
  ·rw [List.getElem?_append_right (by omega)] at e1
   rw [List.getElem?_append_right (by rw [<- h.1]; omega),<- h.1] at e2
   exact h'.2 _ x y e1 e2⟩
theorem Ja {α:Type}:∀ {l:List α},(∀ (i j:Nat) (x:α),l[i]? = some x->l[j]? = some x->i = j)->l.Nodup
 | [],_=>List.nodup_nil
 | a :: r,h=>List.nodup_cons.mpr ⟨fun m=>by
   obtain ⟨j,hj⟩:=List.getElem?_of_mem m
   have:=h 0 (j + 1) a rfl (by simpa using hj)
   omega,Ja fun i j x h1 h2=>by
   have:=h (i + 1) (j + 1) x (by simpa using h1) (by simpa using h2)
   omega⟩
theorem LAt.uncons {β α:Type} {R:Hp->β->α->Prop} {H:Hp} {x:β} {xs:List β} {y:α} {ys:List α} (h:LAt R H (x :: xs) (y :: ys)):R H x y/\LAt R H xs ys :=
 ⟨h.2 0 x y rfl rfl,by simpa using h.1,fun i u v e1 e2=>h.2 (i + 1) u v e1 e2⟩
def Ce:List Jn->Int->Option (Int × Int)
 | [],_=>none
 | j :: r,n=>if j.1 = n then some j.2 else Ce r n
def Fb (J:List Jn) (n:Int):Int:=match Ce J n with | some m=>m.1 | none=>n
def jGo (J:List Jn):Nat->Int->Int
 | 0,n=>n
 | k + 1,n=>Fb J (jGo J k n)
theorem Wk {J:List Jn} (nd:(J.map (·.1)).Nodup) {j:Jn} (h:j ∈ J):Ce J j.1 = some j.2:=by
 induction J with
 | nil=>cases h
 | cons x r ih =>
  obtain ⟨h1,h2⟩:=List.nodup_cons.mp (show (x.1 :: r.map (·.1)).Nodup from nd)
  unfold Ce
  rcases List.mem_cons.mp h with e | e
  ·subst e; rw [if_pos rfl]
  ·rw [if_neg fun z=>h1 (List.mem_map.mpr ⟨j,e,z.symm⟩)]
   exact ih h2 e
theorem Go {J:List Jn} {n:Int} {m:Int × Int} (h:Ce J n = some m):(n,m) ∈ J:=by
 induction J with
 | nil=>cases h
 | cons x r ih =>
  unfold Ce at h
  split at h
  ·rename_i e
   cases h
   rw [<- e]; exact List.mem_cons_self
  ·exact List.mem_cons_of_mem _ (ih h)
theorem Vd {H:Hp} {kvs:List (Key × V)} {J:List Jn} (h:LAt KvAt H kvs J) (n:Int) :
  (Ce J n = none/\Cd kvs (Sum.inl n) = none)\/∃ m p,Ce J n = some m/\Cd kvs (Sum.inl n) = some (.ref p)/\H p = some (.tup [.int m.1,.int m.2]):=by
 induction kvs generalizing J with
 | nil =>
  cases J with
  | nil=>exact .inl ⟨rfl,rfl⟩
  | cons j r=>have:=h.1; simp at this
 | cons kv ks ih =>
  cases J with
  | nil=>have:=h.1; simp at this
  | cons j r =>
   obtain ⟨⟨h1,p,e,hp⟩,h3⟩:=h.uncons
   unfold Ce
   by_cases z:j.1 = n
   ·rw [if_pos z]
    exact .inr ⟨j.2,p,rfl,by rw [Jd (by rw [h1,z]),e],hp⟩
   ·rw [if_neg z,Jb (by rw [h1]; intro w; exact z (Sum.inl.inj w))]
    exact ih h3
def kW (J:List Jn):List (List Key × V):=J.map fun j=>([Sum.inl j.2.1,Sum.inl j.2.2],V.int j.1)
theorem AjP {J:List Jn} {a b:Int} (h:¬ (a,b) ∈ J.map (·.2)):Cd (kW J) [Sum.inl a,Sum.inl b] = none:=by
 cases e:Cd (kW J) ([Sum.inl a,Sum.inl b]:List Key) with
 | none=>rfl
 | some v =>
  have:=AaB e
  unfold kW at this
  rw [List.map_map] at this
  obtain ⟨j,hj,z⟩:=List.mem_map.mp this
  have z':([Sum.inl j.2.1,Sum.inl j.2.2]:List Key) = [Sum.inl a,Sum.inl b]:=z
  injection z' with z1 z2
  injection z2 with z3 z4
  exact absurd (List.mem_map.mpr ⟨j,hj,Prod.ext (Sum.inl.inj z1) (Sum.inl.inj z3)⟩) h
def knd (kk:List (Key × V)) (n:Int):V:=(Cd kk (Sum.inl n)).getD (.str "plain")
structure AbH (kk:List (Key × V)) (J:List Jn):Prop where
 nn:∀ j ∈ J,0 <= j.1/\0 <= j.2.1/\0 <= j.2.2
 mr:∀ j ∈ J,knd kk j.2.2 = .str "mark"
 kd:∀ j ∈ J,∃ k ∈ joinedK,knd kk j.1 = .str k/\knd kk j.2.1 = .str k
 nw:(J.map (·.1)).Nodup
 np:(J.map (·.2)).Nodup
 en:∀ j ∈ J,Ce J (jGo J 7 j.1) = none
 ln:J.length <= 400
theorem Aij {c A B:Prop} [Decidable c] (hc:c) (h:A):if decide c = true then A else B:=by
 rw [if_pos (decide_eq_true hc)]; exact h
theorem Aek {H:Hp} {a:Addr} {u o:HO} (h:H a = some u):upd (upd H a o) a u = H:=by
 rw [Fx]; funext b; unfold upd; split
 ·rename_i e; rw [e,h]
 ·rfl
theorem Ai9 {H:Hp} {a:Addr} {u:HO} {o:Obj}:Rd (upd H a (.frz o u)) a u:=.inr ⟨o,Bk⟩
theorem Qa {α:Type} {l:List α} {i:Nat} {x:α} (nd:l.Nodup) (h:l[i]? = some x):¬ x ∈ l.take i:=by
 obtain ⟨hi,e⟩:=List.getElem?_eq_some_iff.mp h
 rw [<- List.take_append_drop i l,List.drop_eq_getElem_cons hi,e] at nd
 intro m
 exact (List.nodup_append.mp nd).2.2 _ m _ List.mem_cons_self rfl
theorem Jp {α β:Type} {l:List α} {f:α->β} {i:Nat} {x:α} (nd:(l.map f).Nodup) (h:l[i]? = some x):¬ f x ∈ (l.take i).map f:=by
 rw [List.map_take]
 exact Qa nd (by rw [List.getElem?_map,h]; rfl)
def bkF (dk dr dm dp dw:Addr):List (Str × V):=Br "wholes" (.ref dw) (Br "pairs" (.ref dp) (Br "mates" (.ref dm) (Br "ranks" (.ref dr) (Br "kinds" (.ref dk) []))))
theorem Ada {dk dr dm dp dw:Addr}:(bkF dk dr dm dp dw).lookup ("kinds" : Str) = some (.ref dk):=by
 unfold bkF
 rw [Cf,if_neg (by decide +kernel),Cf,if_neg (by decide +kernel),Cf,if_neg (by decide +kernel),Cf,if_neg (by decide +kernel),Cf,if_pos rfl]
theorem AcJ {dk dr dm dp dw:Addr}:(bkF dk dr dm dp dw).lookup ("ranks" : Str) = some (.ref dr):=by
 unfold bkF
 rw [Cf,if_neg (by decide +kernel),Cf,if_neg (by decide +kernel),Cf,if_neg (by decide +kernel),Cf,if_pos rfl]
theorem Ac3 {dk dr dm dp dw:Addr}:(bkF dk dr dm dp dw).lookup ("pairs" : Str) = some (.ref dp):=by
 unfold bkF
 rw [Cf,if_neg (by decide +kernel),Cf,if_pos rfl]
theorem AbO {dk dr dm dp dw:Addr}:(bkF dk dr dm dp dw).lookup ("wholes" : Str) = some (.ref dw):=by
 unfold bkF
 rw [Cf,if_pos rfl]
theorem Uu {dk dr dm dp dw:Addr} {m:Str} (h1:¬ m = "wholes") (h2:¬ m = "pairs") (h3:¬ m = "mates") (h4:¬ m = "ranks") (h5:¬ m = "kinds"):(bkF dk dr dm dp dw).lookup m = none:=by
 unfold bkF
 rw [Cf,if_neg h1,Cf,if_neg h2,Cf,if_neg h3,Cf,if_neg h4,Cf,if_neg h5]
 rfl
theorem Xv {dk dr dm dp dw:Addr}:(bkF dk dr dm dp dw).lookup ("kind" : Str) = none:=Uu (by decide +kernel) (by decide +kernel) (by decide +kernel) (by decide +kernel) (by decide +kernel)
theorem Zc {dk dr dm dp dw:Addr}:(bkF dk dr dm dp dw).lookup ("rank" : Str) = none:=Uu (by decide +kernel) (by decide +kernel) (by decide +kernel) (by decide +kernel) (by decide +kernel)
theorem Wh {dk dr dm dp dw:Addr}:(bkF dk dr dm dp dw).lookup ("parts" : Str) = none:=Uu (by decide +kernel) (by decide +kernel) (by decide +kernel) (by decide +kernel) (by decide +kernel)
theorem Vc {dk dr dm dp dw:Addr}:(bkF dk dr dm dp dw).lookup ("joined" : Str) = none:=Uu (by decide +kernel) (by decide +kernel) (by decide +kernel) (by decide +kernel) (by decide +kernel)
def BookAt (C:Addr) (H:Hp) (b:Addr) (k r m p:List (Key × V)) (w:List (List Key × V)):Prop :=
 ∃ dx dk dr dm dp dw,H b = some (.ins C dx (bkF dk dr dm dp dw))/\H dk = some (.dK k)/\H dr = some (.dK r)/\H dm = some (.dK m)/\H dp = some (.dK p)/\H dw = some (.dT w)
theorem BookAt.mono {C:Addr} {H H':Hp} {b:Addr} {k r m p:List (Key × V)} {w:List (List Key × V)} (h:BookAt C H b k r m p w) (s:∀ q o,H q = some o->(∀ xs,o ≠ .lst xs)->H' q = some o):BookAt C H' b k r m p w:=by
 obtain ⟨dx,dk,dr,dm,dp,dw,h1,h2,h3,h4,h5,h6⟩:=h
 exact ⟨dx,dk,dr,dm,dp,dw,s _ _ h1 (fun _ z=>nomatch z),s _ _ h2 (fun _ z=>nomatch z),s _ _ h3 (fun _ z=>nomatch z),s _ _ h4 (fun _ z=>nomatch z),s _ _ h5 (fun _ z=>nomatch z),s _ _ h6 (fun _ z=>nomatch z)⟩
theorem Oi {C b:Addr} {H:Hp} {k r m p:List (Key × V)} {w:List (List Key × V)} {nm:Str} {P:Prop} (h:BookAt C H b k r m p w) (hm:∀ {dk dr dm dp dw:Addr},(bkF dk dr dm dp dw).lookup nm = none) (q:P) :
  ∃ a dx fs,V.ref b = V.ref a/\H a = some (.ins C dx fs)/\fs.lookup nm = none/\P:=by
 obtain ⟨dx,dk,dr,dm,dp,dw,h1,_⟩:=h
 exact ⟨b,dx,_,rfl,h1,hm,q⟩
def Keep (p:Addr) (H H':Hp):Prop:=∀ q o,H q = some o->q ≠ p->H' q = some o
theorem Keep.trans {p:Addr} {H H1 H2:Hp} (a:Keep p H H1) (b:Keep p H1 H2):Keep p H H2:=fun q o h n=>b q o (a q o h n) n
theorem Keep.new {p d:Addr} {H:Hp} {o:HO} (h:H d = none):Keep p H (upd H d o):=fun q u e _=>by rw [Bg (Bn e h)]; exact e
theorem Keep.put {p:Addr} {H:Hp} {o:HO}:Keep p H (upd H p o):=fun q u e n=>by rw [Bg n]; exact e
theorem Keep.free {p:Addr} {H H':Hp} {o:HO} (k:Keep p H H') (hp:H' p = some o) {d:Addr} (h:H' d = none):H d = none:=by
 cases e:H d with
 | none=>rfl
 | some u =>
  by_cases z:d = p
  ·subst z; rw [hp] at h; cases h
  ·rw [k _ _ e z] at h; cases h
def AaH (C:Addr):Sp:=fun vs H Q _=>∃ p dx a b cc xs ys zs signs mates J,vs = [.ref p,.ref a,.ref b,.ref cc]/\H p = some (.ins C dx [])/\H a = some (.lst xs)/\H b = some (.lst ys)/\H cc = some (.lst zs)/\LAt TripAt H xs signs/\LAt PairAt H ys mates/\LAt TrjAt H zs J /\
 (∀ s ∈ signs,Xj s)/\(∀ m ∈ mates,0 <= m.1/\0 <= m.2)/\(signs.map (·.1) ++ ends mates).Nodup/\AbH (kK signs ++ kM mates) J/\signs.length + 2 * mates.length <= 400 /\
 ∀ H' kvs dx dk dr dm dp dw,Keep p H H'->H dk = none->H dr = none->H dm = none->H dp = none->H dw = none->H' p = some (.ins C dx (bkF dk dr dm dp dw))->H' dk = some (.dK (kK signs ++ kM mates))->H' dr = some (.dK (kR signs))->H' dm = some (.dK (kB mates))->H' dp = some (.dK kvs)->H' dw = some (.dT (kW J))->LAt KvAt H' kvs J->Q .non H'
def Aax (C:Addr):Sp:=fun vs H Q _=>∃ b n k r m p w,vs = [.ref b,.int n]/\BookAt C H b k r m p w/\Q ((Cd k (Sum.inl n)).getD (.str "plain")) H
def AaV (C:Addr):Sp:=fun vs H Q _=>∃ b n k r m p w,vs = [.ref b,.int n]/\BookAt C H b k r m p w/\Q ((Cd r (Sum.inl n)).getD (.int 0)) H
def Zo (C:Addr):Sp:=fun vs H Q _=>∃ b n k r m p w,vs = [.ref b,.int n]/\BookAt C H b k r m p w/\Q ((Cd p (Sum.inl n)).getD .non) H
def Wv (C:Addr):Sp:=fun vs H Q _=>∃ b n n2 k r m p w,vs = [.ref b,.int n,.int n2]/\BookAt C H b k r m p w/\∀ x,H x = none->Q ((Cd w [Sum.inl n,Sum.inl n2]).getD .non) (upd H x (.tup [.int n,.int n2]))
inductive PV where
 | non | bl (b:Bool) | int (i:Int) | str (x:Str)
 | lst (xs:List PV) | tup (xs:List PV) | ctp (xs:List PV)
 | dk (kvs:List (Key × PV)) | dt (kvs:List (List Key × PV))
 | bk (S:List Sg) (M:List (Int × Int)) (J:List Jn)
 | scr (ns:List Int)
 | exc (c:Addr) | cls (c:Addr) | ty (n:String)
inductive Rep (K:PySem.W.Frag) (C:Addr) (G:Hp):V->PV->Prop where
 | non:Rep K C G .non .non
 | bl (b:Bool):Rep K C G (.bl b) (.bl b)
 | int (i:Int):Rep K C G (.int i) (.int i)
 | str (x:Str):Rep K C G (.str x) (.str x)
 | lst {a:Addr} {vs:List V} {ps:List PV} (e:G a = some (.lst vs)) (l:vs.length = ps.length) (h:∀ (i:Nat) (v:V) (p:PV),vs[i]? = some v->ps[i]? = some p->Rep K C G v p):Rep K C G (.ref a) (.lst ps)
 | tup {a:Addr} {vs:List V} {ps:List PV} (e:G a = some (.tup vs)) (l:vs.length = ps.length) (h:∀ (i:Nat) (v:V) (p:PV),vs[i]? = some v->ps[i]? = some p->Rep K C G v p):Rep K C G (.ref a) (.tup ps)
 | ctp {a:Addr} {vs:List V} {ps:List PV} (e:∀ H,SqT K H a vs) (l:vs.length = ps.length) (h:∀ (i:Nat) (v:V) (p:PV),vs[i]? = some v->ps[i]? = some p->Rep K C G v p):Rep K C G (.ref a) (.ctp ps)
 | dk {a:Addr} {kvs:List (Key × V)} {ps:List (Key × PV)} (e:G a = some (.dK kvs)) (l:kvs.length = ps.length) (hk:∀ (i:Nat) (v:Key × V) (p:Key × PV),kvs[i]? = some v->ps[i]? = some p->v.1 = p.1)
   (h:∀ (i:Nat) (v:Key × V) (p:Key × PV),kvs[i]? = some v->ps[i]? = some p->Rep K C G v.2 p.2):Rep K C G (.ref a) (.dk ps)
 | dt {a:Addr} {kvs:List (List Key × V)} {ps:List (List Key × PV)} (e:G a = some (.dT kvs)) (l:kvs.length = ps.length) (hk:∀ (i:Nat) (v:List Key × V) (p:List Key × PV),kvs[i]? = some v->ps[i]? = some p->v.1 = p.1)
   (h:∀ (i:Nat) (v:List Key × V) (p:List Key × PV),kvs[i]? = some v->ps[i]? = some p->Rep K C G v.2 p.2):Rep K C G (.ref a) (.dt ps)
 | bk {b:Addr} {S:List Sg} {M:List (Int × Int)} {J:List Jn} {kvs:List (Key × V)} (h:BookAt C G b (kK S ++ kM M) (kR S) (kB M) kvs (kW J)) (l:LAt KvAt G kvs J):Rep K C G (.ref b) (.bk S M J)
 | scr {a:Addr} {ns:List Int} (h:SqL K G a (ns.map V.int)):Rep K C G (.ref a) (.scr ns)
 | exc {a c:Addr} (e:G a = some (.ext (excF a c))):Rep K C G (.ref a) (.exc c)
 | cls {c:Addr}:Rep K C G (.ref c) (.cls c)
 | ty {n:String}:Rep K C G (.ty n) (.ty n)
section
variable {K:PySem.W.Frag} {C:Addr} {ω:Om} {G G' H H':Hp} {v:V} {p:PV} {a:Addr}
theorem Rep.mono (h:Rep K C G v p) (s:Same G G'):Rep K C G' v p:=by
 induction h with
 | non=>exact .non
 | bl b=>exact .bl b
 | int i=>exact .int i
 | str x=>exact .str x
 | lst e l _ ih=>exact .lst (s _ _ e) l ih
 | tup e l _ ih=>exact .tup (s _ _ e) l ih
 | ctp e l _ ih=>exact .ctp e l ih
 | dk e l hk _ ih=>exact .dk (s _ _ e) l hk ih
 | dt e l hk _ ih=>exact .dt (s _ _ e) l hk ih
 | bk h l=>exact .bk (h.mono fun _ _ e _=>s _ _ e) (l.kvS s)
 | scr h=>exact .scr (s.seq h)
 | exc e=>exact .exc (s _ _ e)
 | cls=>exact .cls
 | ty=>exact .ty
def KRep {κ:Type} (K:PySem.W.Frag) (C:Addr) (G:Hp) (v:κ × V) (p:κ × PV):Prop:=v.1 = p.1/\Rep K C G v.2 p.2
theorem KRep.mono {κ:Type} {v:κ × V} {p:κ × PV} (h:KRep K C G v p) (s:Same G G'):KRep K C G' v p:=⟨h.1,h.2.mono s⟩
abbrev Reps (K:PySem.W.Frag) (C:Addr) (G:Hp) (vs:List V) (ps:List PV):Prop:=LAt (Rep K C) G vs ps
theorem Reps.mono {vs:List V} {ps:List PV} (h:Reps K C G vs ps) (s:Same G G'):Reps K C G' vs ps:=LAt.mono h fun _ _ z=>z.mono s
theorem KReps.mono {κ:Type} {vs:List (κ × V)} {ps:List (κ × PV)} (h:LAt (KRep K C) G vs ps) (s:Same G G'):LAt (KRep K C) G' vs ps:=LAt.mono h fun _ _ z=>z.mono s
theorem Rep.ofL {vs:List V} {ps:List PV} (e:G a = some (.lst vs)) (h:Reps K C G vs ps):Rep K C G (.ref a) (.lst ps):=.lst e h.1 h.2
theorem Rep.ofT {vs:List V} {ps:List PV} (e:G a = some (.tup vs)) (h:Reps K C G vs ps):Rep K C G (.ref a) (.tup ps):=.tup e h.1 h.2
theorem Rep.ofD {vs:List (Key × V)} {ps:List (Key × PV)} (e:G a = some (.dK vs)) (h:LAt (KRep K C) G vs ps):Rep K C G (.ref a) (.dk ps):=.dk e h.1 (fun i v p h1 h2=>(h.2 i v p h1 h2).1) (fun i v p h1 h2=>(h.2 i v p h1 h2).2)
theorem Rep.ofDt {vs:List (List Key × V)} {ps:List (List Key × PV)} (e:G a = some (.dT vs)) (h:LAt (KRep K C) G vs ps):Rep K C G (.ref a) (.dt ps):=.dt e h.1 (fun i v p h1 h2=>(h.2 i v p h1 h2).1) (fun i v p h1 h2=>(h.2 i v p h1 h2).2)
def Su (o:HO):Prop:=∀ xs,o ≠ .tup xs
def OwnA (K:PySem.W.Frag) (C:Addr) (G H:Hp) (a:Addr):PV->Prop
 | .lst ps=>∃ vs,H a = some (.lst vs)/\Reps K C G vs ps
 | .dk ps=>∃ kvs,H a = some (.dK kvs)/\LAt (KRep K C) G kvs ps
 | .dt ps=>∃ kvs,H a = some (.dT kvs)/\LAt (KRep K C) G kvs ps
 | _=>False
theorem OwnA.ofL {vs:List V} {ps:List PV} (e:H a = some (.lst vs)) (r:Reps K C G vs ps):OwnA K C G H a (.lst ps):=⟨vs,e,r⟩
theorem OwnA.ofD {vs:List (Key × V)} {ps:List (Key × PV)} (e:H a = some (.dK vs)) (r:LAt (KRep K C) G vs ps):OwnA K C G H a (.dk ps):=⟨vs,e,r⟩
theorem OwnA.ofDt {vs:List (List Key × V)} {ps:List (List Key × PV)} (e:H a = some (.dT vs)) (r:LAt (KRep K C) G vs ps):OwnA K C G H a (.dt ps):=⟨vs,e,r⟩
theorem OwnA.here (h:OwnA K C G H a p):H a ≠ none:=by
 cases p <;> first | exact h.elim | (obtain ⟨_,e,_⟩:=h; rw [e]; exact fun z=>nomatch z)
theorem OwnA.thing (h:OwnA K C G H a p):∃ o,H a = some o/\Su o:=by
 cases p <;> first | exact h.elim | (obtain ⟨_,e,_⟩:=h; exact ⟨_,e,fun _ z=>nomatch z⟩)
theorem OwnA.mono (h:OwnA K C G H a p) (s:Same G G') (e:H' a = H a):OwnA K C G' H' a p:=by
 cases p <;> first | exact h.elim | (obtain ⟨vs,e1,l⟩:=h; exact ⟨vs,by rw [e]; exact e1,l.mono s⟩) | (obtain ⟨vs,e1,l⟩:=h; exact ⟨vs,by rw [e]; exact e1,KReps.mono l s⟩)
def RepB (K:PySem.W.Frag) (C:Addr) (G H:Hp) (v:V) (p:PV):Prop:=Rep K C G v p\/∃ a,v = .ref a/\OwnA K C G H a p
structure Grow (G H G' H':Hp):Prop where
 g:Same G G'
 h:Same H H'
 i:Same G' H'
 n:∀ a o,H a = some o->Su o->G a = none->G' a = none
theorem Grow.refl (s:Same G H):Grow G H G H:=⟨Same.refl _,Same.refl _,s,fun _ _ _ _ h=>h⟩
theorem _root_.L2.Same.eq (s:Same H H') {a:Addr} (h:H a ≠ none):H' a = H a:=by
 cases e:H a with
 | none=>exact absurd e h
 | some o=>exact s _ _ e
theorem Grow.trans {G1 H1:Hp} (x:Grow G H G1 H1) (y:Grow G1 H1 G' H'):Grow G H G' H':=⟨x.g.trans y.g,x.h.trans y.h,y.i,fun a o h1 t h2=>y.n a o (x.h _ _ h1) t (x.n a o h1 t h2)⟩
theorem RepB.grow (h:RepB K C G H v p) (w:Grow G H G' H'):RepB K C G' H' v p:=by
 rcases h with h | ⟨a,e,h⟩
 ·exact .inl (h.mono w.g)
 ·exact .inr ⟨a,e,h.mono w.g (w.h.eq h.here)⟩
theorem Grow.put {o:HO} (s:Same G H) (n:H a = none) (s2:Same H H') (e:H' a = some o):Grow G H (upd G a o) H':=by
 have gn:G a = none:=s.free n
 refine ⟨Same.new gn,s2,fun b u h=>?_,fun b u h1 _ h2=>?_⟩
 ·by_cases z:b = a
  ·subst z; rw [Bk] at h; rw [e]; exact h
  ·rw [Bg z] at h; exact s2 _ _ (s _ _ h)
 ·rw [Bg (by intro z; subst z; rw [n] at h1; cases h1)]; exact h2
theorem Grow.own (s:Same G H) (s2:Same H H'):Grow G H G H':=⟨Same.refl _,s2,s.trans s2,fun _ _ _ _ h=>h⟩
end
inductive Sl where
 | un | sh (p:PV) | bo (p:PV) | ow (p:PV) | fz (z:Addr × Obj × List (Key × V)) (kvs:List (Key × PV)) | bz (kvs:List (Key × PV)) | fl (z:Addr × List V) (ps:List PV)
abbrev Bm:=List Sl
def SlOk (K:PySem.W.Frag) (C:Addr) (G0 H0:Hp) (own:Nat->Option Addr) (G:Hp) (σ:St) (H:Hp) (i:Nat):Sl->Prop
 | .un=>True
 | .sh p=>∃ v,σ[i]? = some (some v)/\Rep K C G v p
 | .bo p=>∃ v,σ[i]? = some (some v)/\RepB K C G0 H0 v p
 | .ow p=>∃ a,σ[i]? = some (some (.ref a))/\own i = some a/\OwnA K C G H a p
 | .fz z kvs=>σ[i]? = some (some (.ref z.1))/\own i = some z.1/\H z.1 = some (.frz z.2.1 (.dK z.2.2))/\LAt (KRep K C) G z.2.2 kvs
 | .bz kvs=>∃ a o vs,σ[i]? = some (some (.ref a))/\H0 a = some (.frz o (.dK vs))/\LAt (KRep K C) G vs kvs
 | .fl z ps=>σ[i]? = some (some (.ref z.1))/\own i = some z.1/\H z.1 = some (.lst z.2)/\Reps K C G z.2 ps
structure Om where
 E:XK
 X:Nat->Prop
 ca:Nat->Addr
def Om.no:Om:=⟨fun _ _ _=>False,fun _=>False,fun _=>0⟩
structure Sat (K:PySem.W.Frag) (C:Addr) (ω:Om) (B G0 H0:Hp) (own:Nat->Option Addr) (G:Hp) (σ:St) (H:Hp) (ρ:Bm):Prop where
 kb:Same B G
 gr:Grow G0 H0 G H
 len:σ.length = ρ.length
 inj:∀ i j a,own i = some a->own j = some a->i = j
 fr:∀ i a,own i = some a->H0 a = none/\G a = none/\∃ o,H a = some o/\Su o
 sl:∀ i s,ρ[i]? = some s->SlOk K C G0 H0 own G σ H i s
 ex:∀ x H',Same H0 H'->ω.X x->ω.E (.ref (ω.ca x)) none H'
abbrev UE:=Bm->(PV->Prop)->Prop
abbrev UT:=Bm->(Bool->Prop)->Prop
abbrev UA:=Bm->(List PV->Prop)->Prop
structure Fq where
 nx:Bm->Prop
 rt:PV->Prop
 bk:Bm->Prop
 ct:Bm->Prop
abbrev US:=Fq->Bm->Prop
section
variable (K:PySem.W.Frag) (C:Addr) (ω:Om)
def EB (t:TE) (u:UE):Prop:=∀ (B G0 H0:Hp) (own:Nat->Option Addr) (G:Hp) (σ:St) (H:Hp) (ρ:Bm) (P:PV->Prop) (Q:VK),Sat K C ω B G0 H0 own G σ H ρ->u ρ P->(∀ v p G' H',Grow G H G' H'->RepB K C G' H' v p->P p->Q v H')->t σ H Q
def EU (t:TE) (u:UE):Prop:=∀ (B G0 H0:Hp) (own:Nat->Option Addr) (G:Hp) (σ:St) (H:Hp) (ρ:Bm) (P:PV->Prop) (Q:VK),Sat K C ω B G0 H0 own G σ H ρ->u ρ P->(∀ v p G' H',Grow G H G' H'->Rep K C G' v p->P p->Q v H')->t σ H Q
def EF (t:TE) (u:UE):Prop:=∀ (B G0 H0:Hp) (own:Nat->Option Addr) (G:Hp) (σ:St) (H:Hp) (ρ:Bm) (P:PV->Prop) (Q:VK),Sat K C ω B G0 H0 own G σ H ρ->u ρ P->(∀ a p G' H',Grow G H G' H'->H a = none->G' a = none->OwnA K C G' H' a p->P p->Q (.ref a) H')->t σ H Q
def TU (t:TT) (u:UT):Prop:=∀ (B G0 H0:Hp) (own:Nat->Option Addr) (G:Hp) (σ:St) (H:Hp) (ρ:Bm) (P:Bool->Prop) (Q:Bool->Hp->Prop),Sat K C ω B G0 H0 own G σ H ρ->u ρ P->(∀ b G' H',Grow G H G' H'->P b->Q b H')->t σ H Q
def ArgsOk (G H:Hp):List Bool->List V->List PV->Prop
 | [],[],[]=>True
 | true :: ms,v :: vs,p :: ps=>Rep K C G v p/\ArgsOk G H ms vs ps
 | false :: ms,v :: vs,p :: ps=>RepB K C G H v p/\ArgsOk G H ms vs ps
 | _,_,_=>False
def AU (ms:List Bool) (t:TA) (u:UA):Prop:=∀ (B G0 H0:Hp) (own:Nat->Option Addr) (G:Hp) (σ:St) (H:Hp) (ρ:Bm) (P:List PV->Prop) (Q:List V->Hp->Prop),Sat K C ω B G0 H0 own G σ H ρ->u ρ P->(∀ vs ps G' H',Grow G H G' H'->ArgsOk K C G' H' ms vs ps->P ps->Q vs H')->t σ H Q
inductive Rm where
 | sh | fr
def ROk (rm:Rm) (H0 G H:Hp) (v:V) (p:PV):Prop:=match rm with
 | .sh=>Rep K C G v p
 | .fr=>∃ a,v = .ref a/\H0 a = none/\G a = none/\OwnA K C G H a p
structure Fits (rm:Rm) (B G0 H0:Hp) (D:Ends) (d:Fq):Prop where
 nx:∀ own G σ H ρ,Sat K C ω B G0 H0 own G σ H ρ->d.nx ρ->D.nx σ H
 rt:∀ G H v p,Grow G0 H0 G H->ROk K C rm H0 G H v p->d.rt p->D.rt v H
 bk:∀ own G σ H ρ,Sat K C ω B G0 H0 own G σ H ρ->d.bk ρ->D.bk σ H
 ct:∀ own G σ H ρ,Sat K C ω B G0 H0 own G σ H ρ->d.ct ρ->D.ct σ H
def SU (rm:Rm) (t:TS) (u:US):Prop:=∀ (B G0 H0:Hp) (own:Nat->Option Addr) (G:Hp) (σ:St) (H:Hp) (ρ:Bm) (D:Ends) (d:Fq),Sat K C ω B G0 H0 own G σ H ρ->Fits K C ω rm B G0 H0 D d->u d ρ->t D σ H
def GU (top:Nat) (g:TG) (u:PV->Bm->(Bm->Prop)->Prop):Prop:=∀ (B G0 H0:Hp) (own:Nat->Option Addr) (G:Hp) (σ:St) (H:Hp) (ρ:Bm) (v:V) (p:PV) (P:Bm->Prop) (R:St->Hp->Prop),Sat K C ω B G0 H0 own G σ H ρ->Rep K C G v p->u p ρ P ->
 (∀ own' σ' ρ',Sat K C ω B G0 H0 own' G σ' H ρ'->σ'.drop top = σ.drop top->P ρ'->R σ' H)->g v σ H R
def GsU (top:Nat) (g:TGs) (u:List PV->Bm->(Bm->Prop)->Prop):Prop:=∀ (B G0 H0:Hp) (own:Nat->Option Addr) (G:Hp) (σ:St) (H:Hp) (ρ:Bm) (vs:List V) (ps:List PV) (P:Bm->Prop) (R:St->Hp->Prop),Sat K C ω B G0 H0 own G σ H ρ->Reps K C G vs ps->u ps ρ P ->
 (∀ own' σ' ρ',Sat K C ω B G0 H0 own' G σ' H ρ'->σ'.drop top = σ.drop top->P ρ'->R σ' H)->g vs σ H R
end
section
variable {K:PySem.W.Frag} {C:Addr} {ω:Om} {B G0 H0 G G' H H':Hp} {own:Nat->Option Addr} {σ:St} {ρ:Bm}
theorem SlOk.grow {i:Nat} {s:Sl} (h:SlOk K C G0 H0 own G σ H i s) (w:Grow G H G' H'):SlOk K C G0 H0 own G' σ H' i s:=by
 cases s with
 | un=>trivial
 | sh p=>obtain ⟨v,e,r⟩:=h; exact ⟨v,e,r.mono w.g⟩
 | bo p=>exact h
 | ow p=>obtain ⟨a,e,o,r⟩:=h; exact ⟨a,e,o,r.mono w.g (w.h.eq r.here)⟩
 | fz z kvs=>obtain ⟨e,o,h1,h2⟩:=h; exact ⟨e,o,w.h _ _ h1,KReps.mono h2 w.g⟩
 | bz kvs=>obtain ⟨a,o,vs,e,h1,h2⟩:=h; exact ⟨a,o,vs,e,h1,KReps.mono h2 w.g⟩
 | fl z ps=>obtain ⟨e,o,h1,h2⟩:=h; exact ⟨e,o,w.h _ _ h1,h2.mono w.g⟩
theorem Sat.grow (S:Sat K C ω B G0 H0 own G σ H ρ) (w:Grow G H G' H'):Sat K C ω B G0 H0 own G' σ H' ρ :=
 ⟨S.kb.trans w.g,S.gr.trans w,S.len,S.inj,fun i a e=>let ⟨f0,fg,o,ho,ht⟩:=S.fr i a e; ⟨f0,w.n a o ho ht fg,o,w.h _ _ ho,ht⟩,fun i s e=>(S.sl i s e).grow w,S.ex⟩
theorem Sat.base {B':Hp} (S:Sat K C ω B G0 H0 own G σ H ρ) (h:Same B' G):Sat K C ω B' G0 H0 own G σ H ρ:=⟨h,S.gr,S.len,S.inj,S.fr,S.sl,S.ex⟩
def Qb (own:Nat->Option Addr) (i:Nat):Nat->Option Addr:=fun j=>if j = i then none else own j
def Rw (own:Nat->Option Addr) (i:Nat) (a:Addr):Nat->Option Addr:=fun j=>if j = i then some a else own j
theorem Gm {own:Nat->Option Addr} {i j:Nat} {a:Addr} (h:Qb own i j = some a):j ≠ i/\own j = some a:=by
 unfold Qb at h
 split at h
 ·cases h
 ·rename_i z; exact ⟨z,h⟩
theorem Sw {α:Type} {l:List α} {i j:Nat} {x s:α} (h:(l.set i x)[j]? = some s):(j = i/\s = x/\i < l.length)\/(j ≠ i/\l[j]? = some s):=by
 by_cases z:j = i
 ·subst z
  rw [List.getElem?_set_self'] at h
  cases e:l[j]? with
  | none=>rw [e] at h; cases h
  | some y=>rw [e] at h; cases h; exact .inl ⟨rfl,rfl,(List.getElem?_eq_some_iff.mp e).1⟩
 ·rw [List.getElem?_set_ne (Ne.symm z)] at h; exact .inr ⟨z,h⟩
theorem Wa {α:Type} {l:List α} {i j:Nat} {x:α} (z:j ≠ i):(l.set i x)[j]? = l[j]?:=List.getElem?_set_ne (Ne.symm z)
theorem Aan {α:Type} {l:List α} {i:Nat} {x:α} (h:i < l.length):(l.set i x)[i]? = some x:=by rw [List.getElem?_set_self h]
theorem SlOk.other {own':Nat->Option Addr} {σ':St} {i:Nat} {s:Sl} (h:SlOk K C G0 H0 own G σ H i s) (e1:σ'[i]? = σ[i]?) (e2:own' i = own i):SlOk K C G0 H0 own' G σ' H i s:=by
 cases s with
 | un=>trivial
 | sh p=>obtain ⟨v,e,r⟩:=h; exact ⟨v,e1.trans e,r⟩
 | bo p=>obtain ⟨v,e,r⟩:=h; exact ⟨v,e1.trans e,r⟩
 | ow p=>obtain ⟨a,e,o,r⟩:=h; exact ⟨a,e1.trans e,e2.trans o,r⟩
 | fz z kvs=>obtain ⟨e,o,r⟩:=h; exact ⟨e1.trans e,e2.trans o,r⟩
 | bz kvs=>obtain ⟨a,o,vs,e,r⟩:=h; exact ⟨a,o,vs,e1.trans e,r⟩
 | fl z ps=>obtain ⟨e,o,r⟩:=h; exact ⟨e1.trans e,e2.trans o,r⟩
theorem Sat.setS (S:Sat K C ω B G0 H0 own G σ H ρ) {i:Nat} {v:V} {p:PV} (r:Rep K C G v p):Sat K C ω B G0 H0 (Qb own i) G (σ.set i (some v)) H (ρ.set i (.sh p)):=by
 refine ⟨S.kb,S.gr,by rw [List.length_set,List.length_set,S.len],fun j k a h1 h2=>S.inj j k a (Gm h1).2 (Gm h2).2,fun j a h=>S.fr j a (Gm h).2,fun j s h=>?_,S.ex⟩
 rcases Sw h with ⟨rfl,rfl,hl⟩ | ⟨z,h⟩
 ·exact ⟨v,Aan (by rw [S.len]; exact hl),r⟩
 ·exact (S.sl j s h).other (Wa z) (by unfold Qb; rw [if_neg z])
theorem Sat.setO (S:Sat K C ω B G0 H0 own G σ H ρ) {i:Nat} {a:Addr} {p:PV} (r:OwnA K C G H a p) (f0:H0 a = none) (fg:G a = none) (fo:∀ j,own j ≠ some a):Sat K C ω B G0 H0 (Rw own i a) G (σ.set i (some (.ref a))) H (ρ.set i (.ow p)):=by
 refine ⟨S.kb,S.gr,by rw [List.length_set,List.length_set,S.len],fun j k b h1 h2=>?_,fun j b h=>?_,fun j s h=>?_,S.ex⟩
 ·unfold Rw at h1 h2
  split at h1 <;> split at h2
  ·rename_i z1 z2; rw [z1,z2]
  ·cases h1; exact absurd h2 (fo k)
  ·cases h2; exact absurd h1 (fo j)
  ·exact S.inj j k b h1 h2
 ·unfold Rw at h
  split at h
  ·cases h; exact ⟨f0,fg,r.thing⟩
  ·exact S.fr j b h
 ·rcases Sw h with ⟨rfl,rfl,hl⟩ | ⟨z,h⟩
  ·exact ⟨a,Aan (by rw [S.len]; exact hl),by unfold Rw; rw [if_pos rfl],r⟩
  ·exact (S.sl j s h).other (Wa z) (by unfold Rw; rw [if_neg z])
theorem Sat.chg (S:Sat K C ω B G0 H0 own G σ H ρ) {i:Nat} {a:Addr} {p:PV} (e:own i = some a) (hi:σ[i]? = some (some (.ref a))) (c:Chg a H H') (r:OwnA K C G H' a p):Sat K C ω B G0 H0 own G σ H' (ρ.set i (.ow p)):=by
 obtain ⟨f0,fg,fh⟩:=S.fr i a e
 have ng:∀ b o,G b = some o->b ≠ a:=fun b o h z=>by subst z; rw [fg] at h; cases h
 refine ⟨S.kb,⟨S.gr.g,fun b o h=>c _ _ (S.gr.h _ _ h) (by intro z; subst z; rw [f0] at h; cases h),fun b o h=>c _ _ (S.gr.i _ _ h) (ng b o h),S.gr.n⟩,by rw [List.length_set,S.len],S.inj,fun j b h=>?_,fun j s h=>?_,S.ex⟩
 ·obtain ⟨q0,qg,o,qh,qt⟩:=S.fr j b h
  refine ⟨q0,qg,?_⟩
  by_cases z:b = a
  ·subst z; exact r.thing
  ·exact ⟨o,c _ _ qh z,qt⟩
 ·rcases Sw h with ⟨rfl,rfl,hl⟩ | ⟨z,h⟩
  ·exact ⟨a,hi,e,r⟩
  ·have q:=S.sl j s h
   cases s with
   | un=>trivial
   | sh p=>exact q
   | bo p=>exact q
   | bz kvs=>exact q
   | fz y kvs =>
    obtain ⟨e1,o,h1,h2⟩:=q
    exact ⟨e1,o,c _ _ h1 fun w=>z (S.inj j i a (by rw [<- w]; exact o) e),h2⟩
   | fl y ps =>
    obtain ⟨e1,o,h1,h2⟩:=q
    exact ⟨e1,o,c _ _ h1 fun w=>z (S.inj j i a (by rw [<- w]; exact o) e),h2⟩
   | ow p' =>
    obtain ⟨b,e1,o,r1⟩:=q
    have nb:b ≠ a:=fun w=>z (S.inj j i a (by rw [<- w]; exact o) e)
    refine ⟨b,e1,o,r1.mono (Same.refl _) ?_⟩
    cases w:H b with
    | none=>exact absurd w r1.here
    | some o=>exact c _ _ w nb
def Zk:Sl->Sl
 | .ow p=>.sh p
 | s=>s
def Ak6 (i:Nat) (ρ:Bm):Bm:=match ρ[i]? with
 | some s=>ρ.set i (Zk s)
 | none=>ρ
end
section
variable {K:PySem.W.Frag} {C:Addr} {ω:Om}
theorem EU.eb {t:TE} {u:UE} (h:EU K C ω t u):EB K C ω t u:=fun B G0 H0 own G σ H ρ P Q S hu k=>h B G0 H0 own G σ H ρ P Q S hu fun v p G' H' w r hp=>k v p G' H' w (.inl r) hp
theorem EF.eb {t:TE} {u:UE} (h:EF K C ω t u):EB K C ω t u:=fun B G0 H0 own G σ H ρ P Q S hu k=>h B G0 H0 own G σ H ρ P Q S hu fun a p G' H' w _ _ r hp=>k _ p G' H' w (.inr ⟨a,rfl,r⟩) hp
theorem Ace {G H G' H':Hp} {a:Addr} {p:PV} (w:Grow G H G' H') (n:H a = none) (g:G' a = none) (r:OwnA K C G' H' a p):∃ G'',Grow G H G'' H'/\Rep K C G'' (.ref a) p:=by
 obtain ⟨ob,hob⟩:∃ ob,H' a = some ob:=by
  cases e:H' a with
  | none=>exact absurd e r.here
  | some x=>exact ⟨x,rfl⟩
 have sg:Same G' (upd G' a ob):=Same.new g
 refine ⟨upd G' a ob,⟨w.g.trans sg,w.h,fun b u h=>?_,fun b u h1 t h2=>?_⟩,?_⟩
 ·by_cases z:b = a
  ·subst z; rw [Bk] at h; rw [hob]; exact h
  ·rw [Bg z] at h; exact w.i _ _ h
 ·rw [Bg (by intro z; subst z; rw [n] at h1; cases h1)]; exact w.n b u h1 t h2
 ·cases p <;> first | exact r.elim | skip
  ·obtain ⟨vs,h1,h2⟩:=r; rw [hob] at h1; cases h1; exact Rep.ofL Bk (h2.mono sg)
  ·obtain ⟨vs,h1,h2⟩:=r; rw [hob] at h1; cases h1; exact Rep.ofD Bk (KReps.mono h2 sg)
  ·obtain ⟨vs,h1,h2⟩:=r; rw [hob] at h1; cases h1; exact Rep.ofDt Bk (KReps.mono h2 sg)
theorem EF.eu {t:TE} {u:UE} (h:EF K C ω t u):EU K C ω t u:=fun B G0 H0 own G σ H ρ P Q S hu k=>h B G0 H0 own G σ H ρ P Q S hu fun a p G' H' w n g r hp =>
 let ⟨G'',w2,r2⟩:=Ace w n g r
 k _ p G'' H' w2 r2 hp
def Sl.val:Sl->Option PV
 | .un=>none
 | .sh p=>some p
 | .bo p=>some p
 | .ow p=>some p
 | .fz _ _=>none
 | .bz _=>none
 | .fl _ ps=>some (.lst ps)
def AiS (i:Nat):UE:=fun ρ P=>∃ s p,ρ[i]? = some s/\s.val = some p/\P p
def Agf (i:Nat):UE:=fun ρ P=>∃ p,ρ[i]? = some (.sh p)/\P p
theorem Bc {i:Nat}:EB K C ω (Gy i) (AiS i):=fun B G0 H0 own G σ H ρ P Q S ⟨s,p,h1,h2,h3⟩ k=>by
 have q:=S.sl i s h1
 have w:=Grow.refl S.gr.i
 cases s with
 | un=>cases h2
 | sh p'=>cases h2; obtain ⟨v,e,r⟩:=q; exact ⟨v,e,k v _ G H w (.inl r) h3⟩
 | bo p'=>cases h2; obtain ⟨v,e,r⟩:=q; exact ⟨v,e,k v _ G H w (r.grow S.gr) h3⟩
 | ow p'=>cases h2; obtain ⟨a,e,_,r⟩:=q; exact ⟨_,e,k _ _ G H w (.inr ⟨a,rfl,r⟩) h3⟩
 | fz _ _=>cases h2
 | bz _=>cases h2
 | fl z ps=>cases h2; obtain ⟨e,_,h1,r⟩:=q; exact ⟨_,e,k _ _ G H w (.inr ⟨z.1,rfl,OwnA.ofL h1 r⟩) h3⟩
theorem Cz {i:Nat}:EU K C ω (Gy i) (Agf i):=fun B G0 H0 own G σ H ρ P Q S ⟨p,h1,h3⟩ k=>by
 obtain ⟨v,e,r⟩:=S.sl i _ h1
 exact ⟨v,e,k v _ G H (Grow.refl S.gr.i) r h3⟩
def uC (p:PV):UE:=fun _ P=>P p
theorem Qh {v:V} {p:PV} (h:∀ G,Rep K C G v p):EU K C ω (tC v) (uC p):=fun B G0 H0 own G σ H ρ P Q S hu k=>k v p G H (Grow.refl S.gr.i) (h G) hu
theorem Bq {i:Int}:EU K C ω (tC (.int i)) (uC (.int i)):=Qh fun _=>.int i
theorem Te {b:Bool}:EU K C ω (tC (.bl b)) (uC (.bl b)):=Qh fun _=>.bl b
theorem Da {x:Str}:EU K C ω (tC (.str x)) (uC (.str x)):=Qh fun _=>.str x
theorem RepB.int {G H:Hp} {v:V} {i:Int} (h:RepB K C G H v (.int i)):v = .int i:=by
 rcases h with h | ⟨a,_,h⟩
 ·cases h; rfl
 ·exact h.elim
theorem RepB.bl {G H:Hp} {v:V} {b:Bool} (h:RepB K C G H v (.bl b)):v = .bl b:=by
 rcases h with h | ⟨a,_,h⟩
 ·cases h; rfl
 ·exact h.elim
theorem RepB.str {G H:Hp} {v:V} {b:Str} (h:RepB K C G H v (.str b)):v = .str b:=by
 rcases h with h | ⟨a,_,h⟩
 ·cases h; rfl
 ·exact h.elim
theorem RepB.lst {G H:Hp} {v:V} {ps:List PV} (i:Same G H) (h:RepB K C G H v (.lst ps)):∃ a vs,v = .ref a/\H a = some (.lst vs)/\Reps K C G vs ps:=by
 rcases h with h | ⟨a,e,vs,h1,h2⟩
 ·cases h with
  | lst e l q=>exact ⟨_,_,rfl,i _ _ e,l,q⟩
 ·exact ⟨a,vs,e,h1,h2⟩
theorem RepB.tup {G H:Hp} {v:V} {ps:List PV} (i:Same G H) (h:RepB K C G H v (.tup ps)):∃ a vs,v = .ref a/\H a = some (.tup vs)/\Reps K C G vs ps:=by
 rcases h with h | ⟨a,e,h⟩
 ·cases h with
  | tup e l q=>exact ⟨_,_,rfl,i _ _ e,l,q⟩
 ·exact h.elim
theorem RepB.scr {G H:Hp} {v:V} {ns:List Int} (i:Same G H) (h:RepB K C G H v (.scr ns)):∃ a,v = .ref a/\SqL K H a (ns.map V.int):=by
 rcases h with h | ⟨a,e,h⟩
 ·cases h with
  | scr e=>exact ⟨_,rfl,i.seq e⟩
 ·exact h.elim
theorem RepB.dk {G H:Hp} {v:V} {ps:List (Key × PV)} (i:Same G H) (h:RepB K C G H v (.dk ps)):∃ a kvs,v = .ref a/\H a = some (.dK kvs)/\LAt (KRep K C) G kvs ps:=by
 rcases h with h | ⟨a,e,vs,h1,h2⟩
 ·cases h with
  | dk e l hk q=>exact ⟨_,_,rfl,i _ _ e,l,fun i v p h1 h2=>⟨hk i v p h1 h2,q i v p h1 h2⟩⟩
 ·exact ⟨a,vs,e,h1,h2⟩
theorem RepB.dt {G H:Hp} {v:V} {ps:List (List Key × PV)} (i:Same G H) (h:RepB K C G H v (.dt ps)):∃ a kvs,v = .ref a/\H a = some (.dT kvs)/\LAt (KRep K C) G kvs ps:=by
 rcases h with h | ⟨a,e,vs,h1,h2⟩
 ·cases h with
  | dt e l hk q=>exact ⟨_,_,rfl,i _ _ e,l,fun i v p h1 h2=>⟨hk i v p h1 h2,q i v p h1 h2⟩⟩
 ·exact ⟨a,vs,e,h1,h2⟩
theorem two {ta tb:TE} {ua ub:UE} {r:R2} (ha:EB K C ω ta ua) (hb:EB K C ω tb ub) {B G0 H0:Hp} {own:Nat->Option Addr} {G:Hp} {σ:St} {H:Hp} {ρ:Bm} {Q:VK} {P:PV->PV->Prop} (S:Sat K C ω B G0 H0 own G σ H ρ)
  (hu:ua ρ fun p=>ub ρ fun q=>P p q) (k:∀ v w p q G' H',Grow G H G' H'->RepB K C G' H' v p->RepB K C G' H' w q->P p q->r v w H' Q):tOp r ta tb σ H Q :=
 ha B G0 H0 own G σ H ρ _ _ S hu fun v p G1 H1 w1 r1 h1=>hb B G0 H0 own G1 σ H1 ρ _ _ (S.grow w1) h1 fun w q G2 H2 w2 r2 h2=>k v w p q G2 H2 (w1.trans w2) (r1.grow w2) r2 h2
def bI0 (g:Int->Int->PV) (p q:PV) (P:PV->Prop):Prop:=∃ i j,p = .int i/\q = .int j/\P (g i j)
def uI0 (g:Int->Int->PV) (ua ub:UE):UE:=fun ρ P=>ua ρ fun p=>ub ρ fun q=>bI0 g p q P
def bI (c:Int->Int->Prop) (g:Int->Int->PV) (p q:PV) (P:PV->Prop):Prop:=∃ i j,p = .int i/\q = .int j/\c i j/\P (g i j)
def uI (c:Int->Int->Prop) (g:Int->Int->PV) (ua ub:UE):UE:=fun ρ P=>ua ρ fun p=>ub ρ fun q=>bI c g p q P
theorem Fg {g:Int->Int->V} {g':Int->Int->PV} {ta tb:TE} {ua ub:UE} (hg:∀ G i j,Rep K C G (g i j) (g' i j)) (ha:EB K C ω ta ua) (hb:EB K C ω tb ub):EU K C ω (tOp (rI0 g) ta tb) (uI0 g' ua ub) :=
 fun B G0 H0 own G σ H ρ P Q S hu k=>two ha hb S hu fun v w p q G' H' gr r1 r2 ⟨i,j,e1,e2,h⟩=>by
  subst e1 e2
  exact ⟨i,j,r1.int,r2.int,k _ _ G' H' gr (hg G' i j) h⟩
theorem Js {c:Int->Int->Prop} {g:Int->Int->V} {g':Int->Int->PV} {ta tb:TE} {ua ub:UE} (hg:∀ G i j,Rep K C G (g i j) (g' i j)) (ha:EB K C ω ta ua) (hb:EB K C ω tb ub):EU K C ω (tOp (rI c g) ta tb) (uI c g' ua ub) :=
 fun B G0 H0 own G σ H ρ P Q S hu k=>two ha hb S hu fun v w p q G' H' gr r1 r2 ⟨i,j,e1,e2,hc,h⟩=>by
  subst e1 e2
  exact ⟨i,j,r1.int,r2.int,hc,k _ _ G' H' gr (hg G' i j) h⟩
def bU (g:Int->PV) (p:PV) (P:PV->Prop):Prop:=∃ i,p = .int i/\P (g i)
def uU (g:Int->PV) (ua:UE):UE:=fun ρ P=>ua ρ fun p=>bU g p P
theorem Ahg {g:Int->V} {g':Int->PV} {ta:TE} {ua:UE} (hg:∀ G i,Rep K C G (g i) (g' i)) (ha:EB K C ω ta ua):EU K C ω (tUn (rU g) ta) (uU g' ua) :=
 fun B G0 H0 own G σ H ρ P Q S hu k=>ha B G0 H0 own G σ H ρ _ _ S hu fun v p G' H' w r ⟨i,e,h⟩=>by
  subst e
  exact ⟨i,r.int,k _ _ G' H' w (hg G' i) h⟩
def Vs (neg:Bool) (p q:PV) (P:PV->Prop):Prop:=(∃ i j,p = .int i/\q = .int j/\P (.bl (if neg then !decide (i = j) else decide (i = j))))\/(∃ i j,p = .str i/\q = .str j/\P (.bl (if neg then !decide (i = j) else decide (i = j))))
def AeE (neg:Bool) (ua ub:UE):UE:=fun ρ P=>ua ρ fun p=>ub ρ fun q=>Vs neg p q P
theorem Gu {ta tb:TE} {ua ub:UE} (ha:EB K C ω ta ua) (hb:EB K C ω tb ub):EU K C ω (tOp rEq ta tb) (AeE false ua ub) :=
 fun B G0 H0 own G σ H ρ P Q S hu k=>two ha hb S hu fun v w p q G' H' gr r1 r2 h=>by
  rcases h with ⟨i,j,e1,e2,h⟩ | ⟨i,j,e1,e2,h⟩
  ·subst e1 e2; rw [r1.int,r2.int]; exact AfM (k _ _ G' H' gr (.bl _) h)
  ·subst e1 e2; rw [r1.str,r2.str]; exact AfT (k _ _ G' H' gr (.bl _) h)
theorem Xg {ta tb:TE} {ua ub:UE} (ha:EB K C ω ta ua) (hb:EB K C ω tb ub):EU K C ω (tOp rNe ta tb) (AeE true ua ub) :=
 fun B G0 H0 own G σ H ρ P Q S hu k=>two ha hb S hu fun v w p q G' H' gr r1 r2 h=>by
  rcases h with ⟨i,j,e1,e2,h⟩ | ⟨i,j,e1,e2,h⟩
  ·subst e1 e2; rw [r1.int,r2.int]; exact AfG (k _ _ G' H' gr (.bl _) h)
  ·subst e1 e2; rw [r1.str,r2.str]; exact Afy (k _ _ G' H' gr (.bl _) h)
def isN:PV->Bool
 | .non=>true
 | _=>false
theorem AiE {G H:Hp} {v:V} {p:PV} (r:RepB K C G H v p):decide (v = .non) = isN p:=by
 rcases r with r | ⟨a,e,r⟩
 ·cases r <;> first | rfl | exact decide_eq_false (fun z=>nomatch z)
 ·subst e
  cases p <;> first | exact r.elim | exact decide_eq_false (fun z=>nomatch z)
def Ahe (neg:Bool) (ua:UE):UE:=fun ρ P=>ua ρ fun p=>P (.bl (if neg then !isN p else isN p))
theorem AdB {ta:TE} {ua:UE} (ha:EB K C ω ta ua):EU K C ω (AhI ta) (Ahe false ua) :=
 fun B G0 H0 own G σ H ρ P Q S hu k=>ha B G0 H0 own G σ H ρ _ _ S hu fun v p G' H' w r h=>by rw [AiE r]; exact k _ _ G' H' w (.bl _) h
def bB (p:PV) (P:Bool->Prop):Prop:=∃ b,p = .bl b/\P b
def uB (ua:UE):UT:=fun ρ P=>ua ρ fun p=>bB p P
theorem Ds {ta:TE} {ua:UE} (ha:EB K C ω ta ua):TU K C ω (tB ta) (uB ua) :=
 fun B G0 H0 own G σ H ρ P Q S hu k=>ha B G0 H0 own G σ H ρ _ _ S hu fun v p G' H' w r ⟨b,e,h⟩=>by subst e; exact ⟨b,r.bl,k b G' H' w h⟩
theorem Vk {ta:TE} {ua:UE} (ha:EB K C ω ta ua):TU K C ω (AbR ta) (uB ua) :=
 fun B G0 H0 own G σ H ρ P Q S hu k=>ha B G0 H0 own G σ H ρ _ _ S hu fun v p G' H' w r ⟨b,e,h⟩=>by subst e; exact ⟨b,r.bl,k b G' H' w h⟩
def AhE (ua ub:UT):UT:=fun ρ P=>ua ρ fun b=>if b = true then ub ρ P else P false
def uOr (ua ub:UT):UT:=fun ρ P=>ua ρ fun b=>if b = true then P true else ub ρ P
def AiA (ua:UT):UT:=fun ρ P=>ua ρ fun b=>P (!b)
theorem Uz {ta tb:TT} {ua ub:UT} (ha:TU K C ω ta ua) (hb:TU K C ω tb ub):TU K C ω (AiN ta tb) (AhE ua ub) :=
 fun B G0 H0 own G σ H ρ P Q S hu k=>ha B G0 H0 own G σ H ρ _ _ S hu fun b G' H' w h=>by
  cases b with
  | true=>exact Lh (hb B G0 H0 own G' σ H' ρ P Q (S.grow w) (by simpa using h) fun c G2 H2 w2 h2=>k c G2 H2 (w.trans w2) h2)
  | false=>exact Nt (k _ G' H' w (by simpa using h))
theorem Tj {ta tb:TT} {ua ub:UT} (ha:TU K C ω ta ua) (hb:TU K C ω tb ub):TU K C ω (tOr ta tb) (uOr ua ub) :=
 fun B G0 H0 own G σ H ρ P Q S hu k=>ha B G0 H0 own G σ H ρ _ _ S hu fun b G' H' w h=>by
  cases b with
  | false=>exact Nt (hb B G0 H0 own G' σ H' ρ P Q (S.grow w) (by simpa using h) fun c G2 H2 w2 h2=>k c G2 H2 (w.trans w2) h2)
  | true=>exact Lh (k _ G' H' w (by simpa using h))
theorem Yj {ta:TT} {ua:UT} (ha:TU K C ω ta ua):TU K C ω (Aeg ta) (AiA ua) :=
 fun B G0 H0 own G σ H ρ P Q S hu k=>ha B G0 H0 own G σ H ρ _ _ S hu fun b G' H' w h=>k _ G' H' w h
def Afu (ua ub:UE):UE:=fun ρ P=>ua ρ fun p=>bB p fun b=>if b = true then ub ρ P else P (.bl false)
def AfV (ua:UE):UE:=fun ρ P=>ua ρ fun p=>bB p fun b=>P (.bl (!b))
theorem Aa2 {ta tb:TE} {ua ub:UE} (ha:EB K C ω ta ua) (hb:EU K C ω tb ub):EU K C ω (AbJ ta tb) (Afu ua ub) :=
 fun B G0 H0 own G σ H ρ P Q S hu k=>ha B G0 H0 own G σ H ρ _ _ S hu fun v p G' H' w r ⟨b,e,h⟩=>by
  subst e
  refine ⟨b,r.bl,?_⟩
  cases b with
  | true=>exact Lh (hb B G0 H0 own G' σ H' ρ P Q (S.grow w) (by simpa using h) fun c p2 G2 H2 w2 h2=>k c p2 G2 H2 (w.trans w2) h2)
  | false=>exact Nt (k _ _ G' H' w (.bl _) (by simpa using h))
theorem AgH {ta:TE} {ua:UE} (ha:EB K C ω ta ua):EU K C ω (AbG ta) (AfV ua) :=
 fun B G0 H0 own G σ H ρ P Q S hu k=>ha B G0 H0 own G σ H ρ _ _ S hu fun v p G' H' w r ⟨b,e,h⟩=>by subst e; exact ⟨b,r.bl,k _ _ G' H' w (.bl _) h⟩
def uIf (uc:UT) (ua ub:UE):UE:=fun ρ P=>uc ρ fun b=>if b = true then ua ρ P else ub ρ P
theorem Ajy {tc:TT} {ta tb:TE} {uc:UT} {ua ub:UE} (hc:TU K C ω tc uc) (ha:EU K C ω ta ua) (hb:EU K C ω tb ub):EU K C ω (tIf tc ta tb) (uIf uc ua ub) :=
 fun B G0 H0 own G σ H ρ P Q S hu k=>hc B G0 H0 own G σ H ρ _ _ S hu fun b G' H' w h=>by
  cases b with
  | true=>exact Lh (ha B G0 H0 own G' σ H' ρ P Q (S.grow w) (by simpa using h) fun c p2 G2 H2 w2 h2=>k c p2 G2 H2 (w.trans w2) h2)
  | false=>exact Nt (hb B G0 H0 own G' σ H' ρ P Q (S.grow w) (by simpa using h) fun c p2 G2 H2 w2 h2=>k c p2 G2 H2 (w.trans w2) h2)
end
section
variable {K:PySem.W.Frag} {C:Addr} {ω:Om}
theorem ArgsOk.len {G H:Hp}:∀ {ms:List Bool} {vs:List V} {ps:List PV},ArgsOk K C G H ms vs ps->vs.length = ms.length/\ps.length = ms.length
 | [],[],[],_=>⟨rfl,rfl⟩
 | true :: _,_ :: _,_ :: _,h=>⟨congrArg Nat.succ h.2.len.1,congrArg Nat.succ h.2.len.2⟩
 | false :: _,_ :: _,_ :: _,h=>⟨congrArg Nat.succ h.2.len.1,congrArg Nat.succ h.2.len.2⟩
 | [],_ :: _,_,h=>h.elim
 | [],[],_ :: _,h=>h.elim
 | true :: _,[],_,h=>by cases h
 | false :: _,[],_,h=>by cases h
 | true :: _,_ :: _,[],h=>by cases h
 | false :: _,_ :: _,[],h=>by cases h
theorem ArgsOk.reps {G H:Hp}:∀ {n:Nat} {vs:List V} {ps:List PV},ArgsOk K C G H (List.replicate n true) vs ps->Reps K C G vs ps
 | 0,[],[],_=>LAt.nil
 | 0,_ :: _,_,h=>by cases h
 | 0,[],_ :: _,h=>by cases h
 | _ + 1,[],_,h=>by cases h
 | _ + 1,_ :: _,[],h=>by cases h
 | n + 1,v :: vs,p :: ps,h=>by
  have h1:Rep K C G v p:=h.1
  have h2:Reps K C G vs ps:=ArgsOk.reps (n:=n) h.2
  exact ⟨congrArg Nat.succ h2.1,fun i x y e1 e2=>by
   cases i with
   | zero=>cases e1; cases e2; exact h1
   | succ i=>exact h2.2 i x y (by simpa using e1) (by simpa using e2)⟩
def AiJ:UA:=fun _ P=>P []
def Abn (ua:UE) (ur:UA):UA:=fun ρ P=>ua ρ fun p=>ur ρ fun ps=>P (p :: ps)
theorem Bl:AU K C ω [] Qj AiJ:=fun B G0 H0 own G σ H ρ P Q S hu k=>k [] [] G H (Grow.refl S.gr.i) trivial hu
theorem Bx {ms:List Bool} {ta:TE} {tr:TA} {ua:UE} {ur:UA} (ha:EU K C ω ta ua) (hr:AU K C ω ms tr ur):AU K C ω (true :: ms) (Jo ta tr) (Abn ua ur) :=
 fun B G0 H0 own G σ H ρ P Q S hu k=>ha B G0 H0 own G σ H ρ _ _ S hu fun v p G1 H1 w1 r1 h1=>hr B G0 H0 own G1 σ H1 ρ _ _ (S.grow w1) h1 fun vs ps G2 H2 w2 r2 h2=>k (v :: vs) (p :: ps) G2 H2 (w1.trans w2) ⟨r1.mono w2.g,r2⟩ h2
theorem Bz {ms:List Bool} {ta:TE} {tr:TA} {ua:UE} {ur:UA} (ha:EB K C ω ta ua) (hr:AU K C ω ms tr ur):AU K C ω (false :: ms) (Jo ta tr) (Abn ua ur) :=
 fun B G0 H0 own G σ H ρ P Q S hu k=>ha B G0 H0 own G σ H ρ _ _ S hu fun v p G1 H1 w1 r1 h1=>hr B G0 H0 own G1 σ H1 ρ _ _ (S.grow w1) h1 fun vs ps G2 H2 w2 r2 h2=>k (v :: vs) (p :: ps) G2 H2 (w1.trans w2) ⟨r1.grow w2,r2⟩ h2
def Ai6 (u:UA):UE:=fun ρ P=>u ρ fun ps=>P (.lst ps)
def Ahd (u:UA):UE:=fun ρ P=>u ρ fun ps=>P (.tup ps)
theorem Dw (n:Nat) {t:TA} {u:UA} (h:AU K C ω (List.replicate n true) t u) (hn:n <= 1000:=by decide):EF K C ω (Aa5 t) (Ai6 u) :=
 fun B G0 H0 own G σ H ρ P Q S hu k=>h B G0 H0 own G σ H ρ _ _ S hu fun vs ps G1 H1 w1 r1 h1=>by
  have hl:vs.length = n:=by rw [r1.len.1,List.length_replicate]
  refine ⟨Nat.le_of_lt (Jf (by omega)),fun a H2 ha s2 e2=>?_⟩
  have w2:=w1.trans (Grow.own w1.i s2)
  exact k a _ G1 H2 w2 (w1.h.free ha) (w1.i.free ha) (OwnA.ofL e2 r1.reps) h1
theorem Fk (n:Nat) {t:TA} {u:UA} (h:AU K C ω (List.replicate n true) t u) (hn:n <= 1000:=by decide):EU K C ω (Abs t) (Ahd u) :=
 fun B G0 H0 own G σ H ρ P Q S hu k=>h B G0 H0 own G σ H ρ _ _ S hu fun vs ps G1 H1 w1 r1 h1=>by
  have hl:vs.length = n:=by rw [r1.len.1,List.length_replicate]
  refine ⟨Nat.le_of_lt (Jf (by omega)),fun a H2 ha s2 e2=>?_⟩
  have w2:=Grow.put w1.i ha s2 e2
  exact k _ _ _ H2 (w1.trans w2) (Rep.ofT Bk (r1.reps.mono w2.g)) h1
theorem LAt.get' {β α:Type} {R:Hp->β->α->Prop} {H:Hp} {xs:List β} {ys:List α} (h:LAt R H xs ys) {i:Nat} {y:α} (e:ys[i]? = some y):∃ x,xs[i]? = some x/\R H x y:=by
 have hi:i < ys.length:=(List.getElem?_eq_some_iff.mp e).1
 have hx:i < xs.length:=by rw [h.1]; exact hi
 exact ⟨xs[i],List.getElem?_eq_getElem hx,h.2 i _ y (List.getElem?_eq_getElem hx) e⟩
theorem LAt.atI {β α:Type} {R:Hp->β->α->Prop} {H:Hp} {xs:List β} {ys:List α} (h:LAt R H xs ys) {i:Int} {y:α} (e:L2.atI ys i = some y):∃ x,L2.atI xs i = some x/\R H x y:=by
 unfold L2.atI at e ⊢
 rw [h.1]
 cases z:ixN ys.length i with
 | none=>rw [z] at e; cases e
 | some j=>rw [z] at e; exact h.get' e
theorem Ft {G:Hp} (ns:List Int):Reps K C G (ns.map V.int) (ns.map PV.int) :=
 ⟨by simp,fun i v p h1 h2=>by
  rw [List.getElem?_map] at h1 h2
  cases e:ns[i]? with
  | none=>rw [e] at h1; cases h1
  | some n=>rw [e] at h1 h2; cases h1; cases h2; exact .int n⟩
def Ua (p q:PV) (P:PV->Prop):Prop:=∃ i ps x,q = .int i/\(p = .lst ps\/∃ ns,p = .scr ns/\ps = ns.map .int)/\atI ps i = some x/\P x
def AhQ (ua ub:UE):UE:=fun ρ P=>ua ρ fun p=>ub ρ fun q=>Ua p q P
theorem Fs {ta tb:TE} {ua ub:UE} (ha:EB K C ω ta ua) (hb:EB K C ω tb ub):EU K C ω (tOp (AbU K) ta tb) (AhQ ua ub) :=
 fun B G0 H0 own G σ H ρ P Q S hu k=>two ha hb S hu fun v w p q G' H' gr r1 r2 ⟨i,ps,x,e1,e2,e3,h⟩=>by
  subst e1
  rcases e2 with e2 | ⟨ns,e2,e4⟩
  ·subst e2
   obtain ⟨a,vs,rfl,ea,l⟩:=r1.lst gr.i
   obtain ⟨y,hy,ry⟩:=l.atI e3
   exact ⟨a,vs,i,y,rfl,r2.int,SqL.of ea,hy,k y x G' H' gr ry h⟩
  ·subst e2 e4
   obtain ⟨a,rfl,ea⟩:=r1.scr gr.i
   obtain ⟨y,hy,ry⟩:=(Ft (K:=K) (C:=C) (G:=G') ns).atI e3
   exact ⟨a,_,i,y,rfl,r2.int,ea,hy,k y x G' H' gr ry h⟩
def Nr (p q:PV) (P:PV->Prop):Prop:=∃ i ps x,q = .int i/\p = .tup ps/\atI ps i = some x/\P x
def Ah4 (ua ub:UE):UE:=fun ρ P=>ua ρ fun p=>ub ρ fun q=>Nr p q P
theorem Dq {ta tb:TE} {ua ub:UE} (ha:EB K C ω ta ua) (hb:EB K C ω tb ub):EU K C ω (tOp (AbE K) ta tb) (Ah4 ua ub) :=
 fun B G0 H0 own G σ H ρ P Q S hu k=>two ha hb S hu fun v w p q G' H' gr r1 r2 ⟨i,ps,x,e1,e2,e3,h⟩=>by
  subst e1 e2
  obtain ⟨a,vs,rfl,ea,l⟩:=r1.tup gr.i
  obtain ⟨y,hy,ry⟩:=l.atI e3
  exact ⟨a,vs,i,y,rfl,r2.int,SqT.of ea,hy,k y x G' H' gr ry h⟩
abbrev UO:=Bm->(Option Int->Prop)->Prop
def OU (K:PySem.W.Frag) (C:Addr) (ω:Om) (t:TO) (u:UO):Prop:=∀ (B G0 H0:Hp) (own:Nat->Option Addr) (G:Hp) (σ:St) (H:Hp) (ρ:Bm) (P:Option Int->Prop) (Q:Option Int->Hp->Prop),Sat K C ω B G0 H0 own G σ H ρ->u ρ P->(∀ o G' H',Grow G H G' H'->P o->Q o H')->t σ H Q
def Aas:UO:=fun _ P=>P none
def Abc (p:PV) (P:Option Int->Prop):Prop:=∃ i,p = .int i/\P (some i)
def AfR (ua:UE):UO:=fun ρ P=>ua ρ fun p=>Abc p P
theorem Jg:OU K C ω Vq Aas:=fun B G0 H0 own G σ H ρ P Q S hu k=>k none G H (Grow.refl S.gr.i) hu
theorem Fo {ta:TE} {ua:UE} (ha:EB K C ω ta ua):OU K C ω (Abw ta) (AfR ua) :=
 fun B G0 H0 own G σ H ρ P Q S hu k=>ha B G0 H0 own G σ H ρ _ _ S hu fun v p G' H' w r ⟨i,e,h⟩=>by subst e; exact ⟨i,r.int,k _ G' H' w h⟩
def Fy {α:Type} (xs:List α) (lo hi:Option Int):List α:=(xs.drop (HT.sIx xs.length 0 lo)).take (HT.sIx xs.length xs.length hi - HT.sIx xs.length 0 lo)
theorem Fc {α β:Type} (f:α->β) (xs:List α) (lo hi:Option Int):Fy (xs.map f) lo hi = (Fy xs lo hi).map f:=by
 unfold Fy; rw [List.length_map,List.map_take,List.map_drop]
theorem Reps.cut {G:Hp} {vs:List V} {ps:List PV} (h:Reps K C G vs ps) (lo hi:Option Int):Reps K C G (Gz vs lo hi) (Fy ps lo hi):=by
 unfold Gz Fy
 rw [h.1]
 exact (LAt.drop h _).take _
def AbA (p:PV) (lo hi:Option Int) (P:PV->Prop):Prop:=∃ ps,(p = .lst ps\/∃ ns,p = .scr ns/\ps = ns.map .int)/\P (.lst (Fy ps lo hi))
def Ai4 (ua:UE) (ul uh:UO):UE:=fun ρ P=>ua ρ fun p=>ul ρ fun lo=>uh ρ fun hi=>AbA p lo hi P
theorem Gr {ta:TE} {tl th:TO} {ua:UE} {ul uh:UO} (ha:EB K C ω ta ua) (hl:OU K C ω tl ul) (hh:OU K C ω th uh):EF K C ω (tSl (Aba K) ta tl th) (Ai4 ua ul uh) :=
 fun B G0 H0 own G σ H ρ P Q S hu k=>ha B G0 H0 own G σ H ρ _ _ S hu fun v p G1 H1 w1 r1 h1=>hl B G0 H0 own G1 σ H1 ρ _ _ (S.grow w1) h1 fun lo G2 H2 w2 h2=>hh B G0 H0 own G2 σ H2 ρ _ _ ((S.grow w1).grow w2) h2 fun hi G3 H3 w3 h3=>by
  have w:=(w1.trans w2).trans w3
  have r:=(r1.grow w2).grow w3
  obtain ⟨ps,e,h⟩:=h3
  rcases e with e | ⟨ns,e,e4⟩
  ·subst e
   obtain ⟨a,vs,rfl,ea,l⟩:=r.lst w3.i
   exact ⟨a,vs,rfl,SqL.of ea,fun b H4 hb s4 e4=>k b _ G3 H4 (w.trans (Grow.own w3.i s4)) (w.h.free hb) (w3.i.free hb) (OwnA.ofL e4 (l.cut lo hi)) h⟩
  ·subst e e4
   obtain ⟨a,rfl,ea⟩:=r.scr w3.i
   exact ⟨a,_,rfl,ea,fun b H4 hb s4 e4=>k b _ G3 H4 (w.trans (Grow.own w3.i s4)) (w.h.free hb) (w3.i.free hb) (OwnA.ofL e4 ((Ft ns).cut lo hi)) h⟩
theorem AeG {G:Hp} {vs ws:List V} {ps qs:List PV} (h:Reps K C G vs ps) (h':Reps K C G ws qs):Reps K C G (vs ++ ws) (ps ++ qs):=LAt.append h h'
def Aec (p q:PV) (P:PV->Prop):Prop:=∃ ps qs,p = .lst ps/\q = .lst qs/\ps.length + qs.length <= 100000/\P (.lst (ps ++ qs))
def AhC (ua ub:UE):UE:=fun ρ P=>ua ρ fun p=>ub ρ fun q=>Aec p q P
theorem Xs {n:Nat} (h:n <= 100000):n < sizeLine:=Nat.lt_of_le_of_lt h (by decide)
theorem Gb {ta tb:TE} {ua ub:UE} (ha:EB K C ω ta ua) (hb:EB K C ω tb ub):EF K C ω (tOp AbV ta tb) (AhC ua ub) :=
 fun B G0 H0 own G σ H ρ P Q S hu k=>two ha hb S hu fun v w p q G' H' gr r1 r2 ⟨ps,qs,e1,e2,hl,h⟩=>by
  subst e1 e2
  obtain ⟨a,vs,rfl,ea,l⟩:=r1.lst gr.i
  obtain ⟨b,ws,rfl,eb,l2⟩:=r2.lst gr.i
  exact ⟨a,b,vs,ws,rfl,rfl,ea,eb,Nat.le_of_lt (Xs (by rw [l.1,l2.1]; exact hl)),fun c H4 hc s4 e4=>k c _ G' H4 (gr.trans (Grow.own gr.i s4)) (gr.h.free hc) (gr.i.free hc) (OwnA.ofL e4 (AeG l l2)) h⟩
def uCB (ur:List PV->(PV->Prop)->Prop) (u:UA):UE:=fun ρ P=>u ρ fun ps=>ur ps P
theorem Xe {ms:List Bool} {r:List V->Hp->VK->Prop} {ur:List PV->(PV->Prop)->Prop} {t:TA} {u:UA}
  (hr:∀ G H vs ps P Q,Same G H->ArgsOk K C G H ms vs ps->ur ps P->(∀ v p,Rep K C G v p->P p->Q v H)->r vs H Q) (ha:AU K C ω ms t u):EU K C ω (tCB r t) (uCB ur u) :=
 fun B G0 H0 own G σ H ρ P Q S hu k=>ha B G0 H0 own G σ H ρ _ _ S hu fun vs ps G1 H1 w1 r1 h1=>hr G1 H1 vs ps P Q w1.i r1 h1 fun v p rv hp=>k v p G1 H1 w1 rv hp
theorem Nv {G H:Hp} {m:Bool} {vs:List V} {ps:List PV} (h:ArgsOk K C G H [m] vs ps):∃ v p,vs = [v]/\ps = [p]/\RepB K C G H v p:=by
 match vs,ps,m,h with
 | [v],[p],true,h=>exact ⟨v,p,rfl,rfl,.inl h.1⟩
 | [v],[p],false,h=>exact ⟨v,p,rfl,rfl,h.1⟩
 | [],_,true,h=>cases h
 | [],_,false,h=>cases h
 | _ :: _,[],true,h=>cases h
 | _ :: _,[],false,h=>cases h
 | _ :: _ :: _,[_],true,h=>cases h.2
 | _ :: _ :: _,[_],false,h=>cases h.2
 | [_],_ :: _ :: _,true,h=>cases h.2
 | [_],_ :: _ :: _,false,h=>cases h.2
 | _ :: _ :: _,_ :: _ :: _,true,h=>cases h.2
 | _ :: _ :: _,_ :: _ :: _,false,h=>cases h.2
theorem Uq {G H:Hp} {m n:Bool} {vs:List V} {ps:List PV} (h:ArgsOk K C G H [m,n] vs ps):∃ v w p q,vs = [v,w]/\ps = [p,q]/\RepB K C G H v p/\RepB K C G H w q:=by
 match vs,ps,m,h with
 | v :: vs,p :: ps,true,h=>obtain ⟨w,q,rfl,rfl,r⟩:=Nv h.2; exact ⟨v,w,p,q,rfl,rfl,.inl h.1,r⟩
 | v :: vs,p :: ps,false,h=>obtain ⟨w,q,rfl,rfl,r⟩:=Nv h.2; exact ⟨v,w,p,q,rfl,rfl,h.1,r⟩
 | [],_,true,h=>cases h
 | [],_,false,h=>cases h
 | _ :: _,[],true,h=>cases h
 | _ :: _,[],false,h=>cases h
def AfP (ps:List PV) (P:PV->Prop):Prop:=∃ n:Nat,(ps = [.scr []]/\n = 0\/(∃ xs,ps = [.lst xs]/\n = xs.length)\/(∃ xs,ps = [.tup xs]/\n = xs.length)\/∃ ns,ps = [.scr ns]/\n = ns.length)/\P (.int n)
theorem Og {m:Bool} {t:TA} {u:UA} (ha:AU K C ω [m] t u):EU K C ω (tCB (fun xs H Q=>∃ p ys,xs = [.ref p]/\(SqL K H p ys\/SqT K H p ys)/\Q (.int ys.length) H) t) (uCB AfP u) :=
 Xe (fun G H vs ps P Q i ok h k=>by
  obtain ⟨v,p,rfl,rfl,r⟩:=Nv ok
  obtain ⟨n,h1,h2⟩:=h
  rcases h1 with ⟨e,rfl⟩ | ⟨xs,e,rfl⟩ | ⟨xs,e,rfl⟩ | ⟨ns,e,rfl⟩
  ·cases e
   obtain ⟨a,rfl,ea⟩:=r.scr i
   exact ⟨a,_,rfl,.inl ea,k _ _ (.int _) h2⟩
  ·cases e
   obtain ⟨a,vs,rfl,ea,l⟩:=r.lst i
   exact ⟨a,vs,rfl,.inl (SqL.of ea),by rw [l.1]; exact k _ _ (.int _) h2⟩
  ·cases e
   obtain ⟨a,vs,rfl,ea,l⟩:=r.tup i
   exact ⟨a,vs,rfl,.inr (SqT.of ea),by rw [l.1]; exact k _ _ (.int _) h2⟩
  ·cases e
   obtain ⟨a,rfl,ea⟩:=r.scr i
   exact ⟨a,_,rfl,.inl ea,by rw [List.length_map]; exact k _ _ (.int _) h2⟩) ha
def Ye (ps:List PV) (P:PV->Prop):Prop:=∃ xs,(ps = [.lst xs]\/ps = [.tup xs]\/∃ ns,ps = [.scr ns]/\xs = ns.map .int)/\P (.lst xs)
theorem Jh {m:Bool} {t:TA} {u:UA} (ha:AU K C ω [m] t u):EF K C ω (tCB (fun xs H Q=>∃ p ys,xs = [.ref p]/\(SqL K H p ys\/SqT K H p ys)/\∀ l H',H l = none->Same H H'->H' l = some (.lst ys)->Q (.ref l) H') t) (uCB Ye u) :=
 fun B G0 H0 own G σ H ρ P Q S hu k=>ha B G0 H0 own G σ H ρ _ _ S hu fun vs ps G1 H1 w1 r1 h1=>by
  obtain ⟨v,p,rfl,rfl,r⟩:=Nv r1
  obtain ⟨xs,h1,h2⟩:=h1
  rcases h1 with e | e | ⟨ns,e,rfl⟩
  ·cases e
   obtain ⟨a,vs,rfl,ea,l⟩:=r.lst w1.i
   exact ⟨a,vs,rfl,.inl (SqL.of ea),fun b H4 hb s4 e4=>k b _ G1 H4 (w1.trans (Grow.own w1.i s4)) (w1.h.free hb) (w1.i.free hb) (OwnA.ofL e4 l) h2⟩
  ·cases e
   obtain ⟨a,vs,rfl,ea,l⟩:=r.tup w1.i
   exact ⟨a,vs,rfl,.inr (SqT.of ea),fun b H4 hb s4 e4=>k b _ G1 H4 (w1.trans (Grow.own w1.i s4)) (w1.h.free hb) (w1.i.free hb) (OwnA.ofL e4 l) h2⟩
  ·cases e
   obtain ⟨a,rfl,ea⟩:=r.scr w1.i
   exact ⟨a,_,rfl,.inl ea,fun b H4 hb s4 e4=>k b _ G1 H4 (w1.trans (Grow.own w1.i s4)) (w1.h.free hb) (w1.i.free hb) (OwnA.ofL e4 (Ft ns)) h2⟩
end
section
variable {K:PySem.W.Frag} {C:Addr} {ω:Om} {rm:Rm}
def AfF:US:=fun d ρ=>d.nx ρ
def Aeh (u w:US):US:=fun d ρ=>u { d with nx:=w d } ρ
theorem Dn:SU K C ω rm Aa8 AfF:=fun B G0 H0 own G σ H ρ D d S F h=>F.nx own G σ H ρ S h
theorem Bv {t t':TS} {u u':US} (h:SU K C ω rm t u) (h':SU K C ω rm t' u'):SU K C ω rm (Ad7 t t') (Aeh u u'):=fun B G0 H0 own G σ H ρ D d S F hu =>
 h B G0 H0 own G σ H ρ { D with nx:=t' D } { d with nx:=u' d } S ⟨fun own' G' σ' H' ρ' S' q=>h' B G0 H0 own' G' σ' H' ρ' D d S' F q,F.rt,F.bk,F.ct⟩ hu
def Ae3 (ua:UE):US:=fun d ρ=>ua ρ d.rt
theorem Oh {ta:TE} {ua:UE} (ha:EU K C ω ta ua):SU K C ω .sh (Ym ta) (Ae3 ua):=fun B G0 H0 own G σ H ρ D d S F hu =>
 ha B G0 H0 own G σ H ρ _ _ S hu fun v p G' H' w r h=>F.rt G' H' v p (S.gr.trans w) r h
theorem Ge {ta:TE} {ua:UE} (ha:EF K C ω ta ua):SU K C ω .fr (Ym ta) (Ae3 ua):=fun B G0 H0 own G σ H ρ D d S F hu =>
 ha B G0 H0 own G σ H ρ _ _ S hu fun a p G' H' w n g r h=>F.rt G' H' _ p (S.gr.trans w) ⟨a,rfl,S.gr.h.free n,g,r⟩ h
def Agi (i:Nat):US:=fun d ρ=>∃ p,ρ[i]? = some (.ow p)/\d.rt p
theorem Os {i:Nat}:SU K C ω .fr (Ym (Gy i)) (Agi i):=fun B G0 H0 own G σ H ρ D d S F ⟨p,e,h⟩=>by
 obtain ⟨a,e1,o,r⟩:=S.sl i _ e
 obtain ⟨f0,fg,_⟩:=S.fr i a o
 exact ⟨_,e1,F.rt G H _ p S.gr ⟨a,rfl,f0,fg,r⟩ h⟩
def Ahi (uc:UT) (u w:US):US:=fun d ρ=>uc ρ fun b=>if b = true then u d ρ else w d ρ
theorem Ff {tc:TT} {t t':TS} {uc:UT} {u u':US} (hc:TU K C ω tc uc) (h:SU K C ω rm t u) (h':SU K C ω rm t' u'):SU K C ω rm (AeQ tc t t') (Ahi uc u u'):=fun B G0 H0 own G σ H ρ D d S F hu =>
 hc B G0 H0 own G σ H ρ _ _ S hu fun b G' H' w q=>by
  cases b with
  | true=>exact Lh (h B G0 H0 own G' σ H' ρ D d (S.grow w) F (by simpa using q))
  | false=>exact Nt (h' B G0 H0 own G' σ H' ρ D d (S.grow w) F (by simpa using q))
def Ah8 (i:Nat) (ua:UE):US:=fun d ρ=>ua ρ fun p=>d.nx (ρ.set i (.sh p))
theorem Ct {i:Nat} {ta:TE} {ua:UE} (ha:EU K C ω ta ua):SU K C ω rm (Sa ta (Lo i)) (Ah8 i ua):=fun B G0 H0 own G σ H ρ D d S F hu =>
 ha B G0 H0 own G σ H ρ _ _ S hu fun v p G' H' w r h=>F.nx _ G' _ H' _ ((S.grow w).setS r) h
def Af0 (i:Nat) (ua:UE):US:=fun d ρ=>ua ρ fun p=>d.nx (ρ.set i (.ow p))
theorem Oo {i:Nat} {ta:TE} {ua:UE} (ha:EF K C ω ta ua):SU K C ω rm (Sa ta (Lo i)) (Af0 i ua):=fun B G0 H0 own G σ H ρ D d S F hu =>
 ha B G0 H0 own G σ H ρ _ _ S hu fun a p G' H' w n g r h=>F.nx _ G' _ H' _ ((S.grow w).setO r (S.gr.h.free n) g fun j z=>(let ⟨_,_,o,ho,_⟩:=S.fr j a z; by rw [n] at ho; cases ho)) h
def Adw (i:Nat):PV->Bm->(Bm->Prop)->Prop:=fun p ρ P=>P (ρ.set i (.sh p))
theorem Za {α:Type}:∀ {l:List α} {i top:Nat} {x:α},i < top->(l.set i x).drop top = l.drop top
 | [],_,_,_,_=>rfl
 | _ :: _,_,0,_,h=>by omega
 | _ :: _,0,_ + 1,_,_=>rfl
 | _ :: l,i + 1,t + 1,x,h=>Za (l:=l) (i:=i) (top:=t) (by omega)
theorem Dg {top i:Nat} (hi:i < top:=by decide):GU K C ω top (Lo i) (Adw i):=fun B G0 H0 own G σ H ρ v p P R S r h k=>k _ _ _ (S.setS r) (Za hi) h
def AdG:List PV->Bm->(Bm->Prop)->Prop:=fun ps ρ P=>ps = []/\P ρ
def Aa3 (u:PV->Bm->(Bm->Prop)->Prop) (us:List PV->Bm->(Bm->Prop)->Prop):List PV->Bm->(Bm->Prop)->Prop:=fun ps ρ P=>∃ p r,ps = p :: r/\u p ρ fun ρ'=>us r ρ' P
theorem Tg {top:Nat}:GsU K C ω top AdV AdG:=fun B G0 H0 own G σ H ρ vs ps P R S r ⟨e,h⟩ k=>by
 subst e
 exact ⟨List.eq_nil_of_length_eq_zero r.1,k _ _ _ S rfl h⟩
theorem Fu {top:Nat} {g:TG} {gs:TGs} {u:PV->Bm->(Bm->Prop)->Prop} {us:List PV->Bm->(Bm->Prop)->Prop} (hg:GU K C ω top g u) (hs:GsU K C ω top gs us):GsU K C ω top (AbX g gs) (Aa3 u us):=fun B G0 H0 own G σ H ρ vs ps P R S r ⟨p,q,e,h⟩ k=>by
 subst e
 match vs,r with
 | [],r=>have:=r.1; simp at this
 | v :: vs,r =>
  obtain ⟨r1,r2⟩:=r.uncons
  exact ⟨v,vs,rfl,hg B G0 H0 own G σ H ρ v p _ _ S r1 h fun own' σ' ρ' S' dr h'=>hs B G0 H0 own' G σ' H ρ' vs q P R S' r2 h' fun own2 σ2 ρ2 S2 dr2 h2=>k own2 σ2 ρ2 S2 (dr2.trans dr) h2⟩
def Xd (n:Nat) (us:List PV->Bm->(Bm->Prop)->Prop):PV->Bm->(Bm->Prop)->Prop:=fun p ρ P=>∃ ps,p = .tup ps/\ps.length = n/\us ps ρ P
theorem Up {top n:Nat} {gs:TGs} {us:List PV->Bm->(Bm->Prop)->Prop} (hs:GsU K C ω top gs us):GU K C ω top (Zj K n gs) (Xd n us):=fun B G0 H0 own G σ H ρ v p P R S r ⟨ps,e,hl,h⟩ k=>by
 subst e
 cases r with
 | tup e l q=>exact ⟨_,_,rfl,SqT.of (S.gr.i _ _ e),by rw [l]; exact hl,hs B G0 H0 own G σ H ρ _ ps P R S ⟨l,q⟩ h k⟩
def Ah1 (ua:UE) (ug:PV->Bm->(Bm->Prop)->Prop):US:=fun d ρ=>ua ρ fun p=>ug p ρ d.nx
theorem Ahy {top:Nat} {ta:TE} {ua:UE} {g:TG} {ug:PV->Bm->(Bm->Prop)->Prop} (ha:EU K C ω ta ua) (hg:GU K C ω top g ug):SU K C ω rm (Sa ta g) (Ah1 ua ug):=fun B G0 H0 own G σ H ρ D d S F hu =>
 ha B G0 H0 own G σ H ρ _ _ S hu fun v p G' H' w r h=>hg B G0 H0 own G' σ H' ρ v p _ _ (S.grow w) r h fun own' σ' ρ' S' _ q=>F.nx own' G' σ' H' ρ' S' q
theorem Wb {G:Hp} {vs:List V} {ps:List PV} {v:V} {p:PV} (h:Reps K C G vs ps) (r:Rep K C G v p):Reps K C G (vs ++ [v]) (ps ++ [p]):=LAt.snoc h r
theorem Sat.list {B G0 H0 G H:Hp} {own:Nat->Option Addr} {σ:St} {ρ:Bm} {i:Nat} {ps:List PV} (S:Sat K C ω B G0 H0 own G σ H ρ) (e:ρ[i]? = some (.ow (.lst ps))):∃ a vs,σ[i]? = some (some (.ref a))/\own i = some a/\H a = some (.lst vs)/\Reps K C G vs ps:=by
 obtain ⟨a,e1,o,vs,h1,h2⟩:=S.sl i _ e
 exact ⟨a,vs,e1,o,h1,h2⟩
theorem Agp {B G0 H0 G H:Hp} {own:Nat->Option Addr} {σ:St} {ρ:Bm} {i:Nat} {r:V->List V->Hp->VK->Prop} {t:TA} {Q:VK} {ps:List PV} (S:Sat K C ω B G0 H0 own G σ H ρ) (e:ρ[i]? = some (.ow (.lst ps)))
  (k:∀ a vs,σ[i]? = some (some (.ref a))->own i = some a->H a = some (.lst vs)->Reps K C G vs ps->t σ H fun xs H2=>r (.ref a) xs H2 Q):tBM K "list" r (Gy i) t σ H Q:=by
 obtain ⟨a,vs,e1,o,h1,h2⟩:=S.list e
 exact ⟨_,e1,.inl ⟨rfl,_,SqL.of h1⟩,k a vs e1 o h1 h2⟩
def AeJ (i:Nat) (ρ:Bm) (N:Bm->Prop) (qs:List PV):Prop:=∃ q ps,qs = [q]/\ρ[i]? = some (.ow (.lst ps))/\ps.length < 100000/\N (ρ.set i (.ow (.lst (ps ++ [q]))))
def Afn (i:Nat) (u:UA):US:=fun d ρ=>(∃ ps,ρ[i]? = some (.ow (.lst ps)))/\u ρ fun qs=>AeJ i ρ d.nx qs
theorem Ol {i:Nat} {t:TA} {u:UA} (ha:AU K C ω [true] t u):SU K C ω rm (AbS (tBM K "list" Tu (Gy i) t)) (Afn i u):=fun B G0 H0 own G σ H ρ D d S F ⟨⟨ps0,e0⟩,hu⟩ =>
 Agp S e0 fun a vs0 e1 o _ _=>ha B G0 H0 own G σ H ρ _ _ S hu fun xs qs G' H' w ok ⟨q,ps,eq,ep,hl,h⟩=>by
  have S':=S.grow w
  obtain ⟨a',vs,e1',o',h1,h2⟩:=S'.list ep
  rw [o] at o'; cases o'
  subst eq
  match xs,ok with
  | [x],ok =>
   have rx:Rep K C G' x q:=ok.1
   exact ⟨a,vs,x,rfl,rfl,h1,Xs (by rw [h2.1]; omega),fun H2 c e2=>F.nx own G' σ H2 _ (S'.chg o e1 c (OwnA.ofL e2 (Wb h2 rx))) h⟩
  | [],ok=>cases ok
  | _ :: _ :: _,ok=>cases ok.2
theorem AaM:EF K C ω Xw (fun _ P=>P (.dk [])):=fun B G0 H0 own G σ H ρ P Q S hu k p hp =>
 k p _ G _ (Grow.own S.gr.i (Same.new hp)) hp (S.gr.i.free hp) (by first | exact OwnA.ofD Bk LAt.nil | exact OwnA.ofDt Bk LAt.nil) hu
theorem AeH:EF K C ω Yx (fun _ P=>P (.dt [])):=fun B G0 H0 own G σ H ρ P Q S hu k p hp =>
 k p _ G _ (Grow.own S.gr.i (Same.new hp)) hp (S.gr.i.free hp) (by first | exact OwnA.ofD Bk LAt.nil | exact OwnA.ofDt Bk LAt.nil) hu
def kP:Key->PV
 | .inl i=>.int i
 | .inr x=>.str x
def Cu {κ:Type} [DecidableEq κ] (kvs:List (κ × PV)) (k:κ):Option PV:=(kvs.find? fun kv=>decide (kv.1 = k)).map (·.2)
def Jc {κ:Type} [DecidableEq κ] (kvs:List (κ × PV)) (k:κ) (v:PV):List (κ × PV) :=
 if kvs.any (fun kv=>decide (kv.1 = k)) then kvs.map (fun kv=>if kv.1 = k then (kv.1,v) else kv) else kvs ++ [(k,v)]
theorem Zy {κ:Type} [DecidableEq κ] {G:Hp}:∀ {kvs:List (κ × V)} {ps:List (κ × PV)} (k:κ),LAt (KRep K C) G kvs ps->(Cd kvs k = none/\Cu ps k = none)\/∃ v p,Cd kvs k = some v/\Cu ps k = some p/\Rep K C G v p
 | [],[],_,_=>.inl ⟨rfl,rfl⟩
 | [],_ :: _,_,h=>by have:=h.1; simp at this
 | _ :: _,[],_,h=>by have:=h.1; simp at this
 | x :: xs,y :: ys,k,h=>by
  obtain ⟨⟨e,r⟩,h2⟩:=h.uncons
  unfold Cd Cu
  rw [List.find?_cons,List.find?_cons,<- e]
  by_cases z:x.1 = k
  ·rw [decide_eq_true z]; exact .inr ⟨_,_,rfl,rfl,r⟩
  ·rw [decide_eq_false z]; exact Zy k h2
theorem Abt {G H:Hp} {v:V} {k:Key} (h:RepB K C G H v (kP k)):v = kV k:=by
 cases k with
 | inl i=>exact h.int
 | inr x=>exact h.str
end
section
variable {K:PySem.W.Frag} {C:Addr} {ω:Om} {rm:Rm}
theorem AcK {κ:Type} [DecidableEq κ] {G:Hp} {kvs:List (κ × V)} {ps:List (κ × PV)} {k:κ} {v:V} {p:PV} (h:LAt (KRep K C) G kvs ps) (r:Rep K C G v p):LAt (KRep K C) G (Gg kvs k v) (Jc ps k p):=by
 have hany:(kvs.any fun kv=>decide (kv.1 = k)) = (ps.any fun kv=>decide (kv.1 = k)):=by
  clear r
  induction kvs generalizing ps with
  | nil=>cases ps with
   | nil=>rfl
   | cons y ys=>have:=h.1; simp at this
  | cons x xs ih=>cases ps with
   | nil=>have:=h.1; simp at this
   | cons y ys =>
    obtain ⟨⟨e,_⟩,h2⟩:=h.uncons
    rw [List.any_cons,List.any_cons,e,ih h2]
 unfold Gg Jc
 rw [hany]
 split
 ·refine ⟨by rw [List.length_map,List.length_map,h.1],fun i x y e1 e2=>?_⟩
  rw [List.getElem?_map] at e1 e2
  obtain ⟨x',hx,rfl⟩:=Option.map_eq_some_iff.mp e1
  obtain ⟨y',hy,rfl⟩:=Option.map_eq_some_iff.mp e2
  obtain ⟨q1,q2⟩:=h.2 i x' y' hx hy
  by_cases z:x'.1 = k
  ·rw [if_pos z,if_pos (by rw [<- q1]; exact z)]; exact ⟨q1,r⟩
  ·rw [if_neg z,if_neg (by rw [<- q1]; exact z)]; exact ⟨q1,q2⟩
 ·exact LAt.snoc h ⟨rfl,r⟩
theorem Zh {G H:Hp} {v:V} {k:List Key} (i:Same G H) (h:RepB K C G H v (.tup (k.map kP))):∃ b,v = .ref b/\H b = some (.tup (k.map kV)):=by
 obtain ⟨a,vs,rfl,e,l⟩:=h.tup i
 have:vs = k.map kV:=by
  refine List.ext_getElem? fun j=>?_
  cases z:k[j]? with
  | none =>
   have hj:k.length <= j:=List.getElem?_eq_none_iff.mp z
   have hl:=l.1
   rw [List.length_map] at hl
   rw [List.getElem?_eq_none (by omega),List.getElem?_eq_none (by rw [List.length_map]; omega)]
  | some x =>
   have e2:(k.map kP)[j]? = some (kP x):=by rw [List.getElem?_map,z]; rfl
   obtain ⟨y,hy,ry⟩:=l.get' e2
   rw [hy,List.getElem?_map,z]
   exact congrArg some (Abt (.inl ry:RepB K C G H y (kP x)))
 exact ⟨a,rfl,by rw [<- this]; exact e⟩
def Aea (neg:Bool) (q p:PV) (P:PV->Prop):Prop:=∃ kvs k,p = .dk kvs/\q = kP k/\P (.bl (if neg then !(Cu kvs k).isSome else (Cu kvs k).isSome))
def Aid (neg:Bool) (ua ub:UE):UE:=fun ρ P=>ua ρ fun q=>ub ρ fun p=>Aea neg q p P
theorem Vj {G H:Hp} {v w:V} {kvs:List (Key × PV)} {k:Key} (i:Same G H) (r1:RepB K C G H w (.dk kvs)) (r2:RepB K C G H v (kP k)):∃ a o,w = .ref a/\IsD H a/\DGet H a v o/\((o = none/\Cu kvs k = none)\/∃ x p,o = some x/\Cu kvs k = some p/\Rep K C G x p):=by
 obtain ⟨a,vs,rfl,ea,l⟩:=r1.dk i
 rw [Abt r2]
 refine ⟨a,Cd vs k,rfl,.inl ⟨_,.inl ea⟩,DGet.k ea,?_⟩
 rcases Zy k l with ⟨h1,h2⟩ | ⟨x,p,h1,h2,h3⟩
 ·exact .inl ⟨h1,h2⟩
 ·exact .inr ⟨x,p,h1,h2,h3⟩
theorem Aiq {ta tb:TE} {ua ub:UE} (ha:EB K C ω ta ua) (hb:EB K C ω tb ub):EU K C ω (Abi ta tb) (Aid false ua ub):=fun B G0 H0 own G σ H ρ P Q S hu k =>
 ha B G0 H0 own G σ H ρ _ _ S hu fun v q G1 H1 w1 r1 h1=>hb B G0 H0 own G1 σ H1 ρ _ _ (S.grow w1) h1 fun w p G2 H2 w2 r2 ⟨kvs,key,e1,e2,h⟩=>by
  subst e1 e2
  obtain ⟨a,o,rfl,_,hg,ho⟩:=Vj w2.i r2 (r1.grow w2)
  refine ⟨a,o,rfl,hg,?_⟩
  have:o.isSome = (Cu kvs key).isSome:=by
   rcases ho with ⟨h1,h2⟩ | ⟨x,p,h1,h2,h3⟩
   ·rw [h1,h2]; rfl
   ·rw [h1,h2]; rfl
  rw [this]
  exact k _ _ G2 H2 (w1.trans w2) (.bl _) h
def Abo (p q:PV) (P:PV->Prop):Prop:=∃ kvs k x,p = .dk kvs/\q = kP k/\Cu kvs k = some x/\P x
def Agh (ua ub:UE):UE:=fun ρ P=>ua ρ fun p=>ub ρ fun q=>Abo p q P
theorem Tb {ta tb:TE} {ua ub:UE} (ha:EB K C ω ta ua) (hb:EB K C ω tb ub):EU K C ω (Xf ta tb) (Agh ua ub):=fun B G0 H0 own G σ H ρ P Q S hu k =>
 ha B G0 H0 own G σ H ρ _ _ S hu fun v q G1 H1 w1 r1 h1=>hb B G0 H0 own G1 σ H1 ρ _ _ (S.grow w1) h1 fun w p G2 H2 w2 r2 ⟨kvs,key,x,e1,e2,e3,h⟩=>by
  subst e1 e2
  obtain ⟨a,o,rfl,_,hg,ho⟩:=Vj w2.i (r1.grow w2) r2
  rcases ho with ⟨h1,h2⟩ | ⟨y,p,h1,h2,h3⟩
  ·rw [e3] at h2; cases h2
  ·rw [e3] at h2; cases h2
   subst h1
   exact ⟨a,y,rfl,hg,k _ _ G2 H2 (w1.trans w2) h3 h⟩
def Zw (kvs:List (Key × PV)) (q z:PV) (P:PV->Prop):Prop:=∃ k,q = kP k/\P ((Cu kvs k).getD z)
def AcE (i:Nat) (ub uc:UE):UE:=fun ρ P=>∃ s kvs,ρ[i]? = some s/\s.val = some (.dk kvs)/\ub ρ fun q=>uc ρ fun z=>Zw kvs q z P
theorem AeP {i:Nat} {tb tc:TE} {ub uc:UE} (hb:EB K C ω tb ub) (hc:EU K C ω tc uc):EU K C ω (Yk (Gy i) tb tc) (AcE i ub uc):=fun B G0 H0 own G σ H ρ P Q S ⟨s,kvs,e,ev,hu⟩ k =>
 Bc B G0 H0 own G σ H ρ (fun p=>p = .dk kvs) _ S ⟨s,_,e,ev,rfl⟩ fun v q G1 H1 w1 r1 e0=>by
  subst e0
  obtain ⟨a,vs,rfl,ea,l⟩:=r1.dk w1.i
  refine ⟨a,rfl,.inl ⟨_,.inl ea⟩,hb B G0 H0 own G1 σ H1 ρ _ _ (S.grow w1) hu fun w p G2 H2 w2 r2 h2=>hc B G0 H0 own G2 σ H2 ρ _ _ ((S.grow w1).grow w2) h2 fun z pz G3 H3 w3 r3 ⟨key,e2,h⟩=>?_⟩
  subst e2
  obtain ⟨a',o,e,_,hg,ho⟩:=Vj w3.i ((r1.grow w2).grow w3) (r2.grow w3)
  cases e
  refine ⟨o,hg,?_⟩
  have w:=(w1.trans w2).trans w3
  rcases ho with ⟨h1,h2⟩ | ⟨y,p,h1,h2,h3⟩
  ·rw [h2] at h; subst h1; exact k _ _ G3 H3 w r3 h
  ·rw [h2] at h; subst h1; exact k _ _ G3 H3 w h3 h
def Abe (i:Nat) (ρ:Bm) (N:Bm->Prop) (p q:PV):Prop:=∃ kvs k,ρ[i]? = some (.ow (.dk kvs))/\q = kP k/\kvs.length < 100000/\N (ρ.set i (.ow (.dk (Jc kvs k p))))
def Af7 (i:Nat) (ub uv:UE):US:=fun d ρ=>(∃ kvs,ρ[i]? = some (.ow (.dk kvs)))/\uv ρ fun p=>ub ρ fun q=>Abe i ρ d.nx p q
theorem AaA {i:Nat} {tb tv:TE} {ub uv:UE} (hb:EB K C ω tb ub) (hv:EU K C ω tv uv):SU K C ω rm (Xn (Gy i) tb tv) (Af7 i ub uv):=fun B G0 H0 own G σ H ρ D d S F ⟨⟨kvs0,e0⟩,hu⟩ =>
 hv B G0 H0 own G σ H ρ _ _ S hu fun v p G1 H1 w1 r1 h1=>by
  have S1:=S.grow w1
  obtain ⟨a,ea,o,_⟩:=S.sl i _ e0
  refine ⟨_,ea,hb B G0 H0 own G1 σ H1 ρ _ _ S1 h1 fun w q G2 H2 w2 r2 ⟨kvs,k,e,e2,hl,h⟩=>?_⟩
  subst e2
  have S2:=S1.grow w2
  obtain ⟨a',ea',o',vs,ha,l⟩:=S2.sl i _ e
  rw [o] at o'; cases o'
  rw [Abt r2]
  exact ⟨a,_,rfl,DPut.k ha (Xs (by rw [l.1]; omega)),F.nx own G2 σ _ _ (S2.chg o ea Chg.put (OwnA.ofD Bk (AcK l (r1.mono w2.g)))) h⟩
end
section
variable {K:PySem.W.Frag} {C:Addr} {ω:Om} {rm:Rm}
abbrev UI:=Bm->(List PV->Prop)->Prop
def Xl (ps:List PV) (ug:PV->Bm->(Bm->Prop)->Prop) (ub:US):US:=fun d ρ=>∃ I:Nat->Bm->Prop,I 0 ρ/\(∀ k p ρ,ps[k]? = some p->I k ρ->ug p ρ fun ρ'=>ub { d with nx:=I (k + 1),ct:=I (k + 1),bk:=d.nx } ρ')/\∀ ρ,I ps.length ρ->d.nx ρ
def AeV (ui:UI) (ug:PV->Bm->(Bm->Prop)->Prop) (ub:US):US:=fun d ρ=>ui ρ fun ps=>Xl ps ug ub d ρ
def bL (p:PV) (R:List PV->Prop):Prop:=∃ ps,(p = .lst ps\/∃ ns,p = .scr ns/\ps = ns.map .int)/\R ps
def uiL (ua:UE):UI:=fun ρ R=>ua ρ fun p=>bL p R
theorem Sj {B B1 G0 H0:Hp} {D:Ends} {d:Fq} {N:Bm->Prop} {M:St->Hp->Prop} (F:Fits K C ω rm B G0 H0 D d) (hb:Same B B1) (hM:∀ own G σ H ρ,Sat K C ω B1 G0 H0 own G σ H ρ->N ρ->M σ H) :
  Fits K C ω rm B1 G0 H0 { D with nx:=M,ct:=M,bk:=D.nx } { d with nx:=N,ct:=N,bk:=d.nx } :=
 ⟨hM,F.rt,fun own G σ H ρ S h=>F.nx own G σ H ρ (S.base (hb.trans S.kb)) h,hM⟩
theorem Ow {top:Nat} {ta:TE} {ua:UE} {g:TG} {ug:PV->Bm->(Bm->Prop)->Prop} {tb:TS} {ub:US} (ha:EU K C ω ta ua) (hg:GU K C ω top g ug) (hb:SU K C ω rm tb ub):SU K C ω rm (Rr (Ti K ta) g tb) (AeV (uiL ua) ug ub) :=
 fun B G0 H0 own G σ H ρ D d S F hu=>ha B G0 H0 own G σ H ρ _ _ S hu fun v p G1 H1 w1 r1 ⟨ps,e,I,i0,ist,iend⟩=>by
  have S1:=S.grow w1
  obtain ⟨a,vs,rfl,sq,rp⟩:∃ a vs,v = .ref a/\SqL K G1 a vs/\Reps K C G1 vs ps:=by
   rcases e with e | ⟨ns,e,e2⟩
   ·subst e
    cases r1 with
    | lst e l q=>exact ⟨_,_,rfl,SqL.of e,l,q⟩
   ·subst e e2
    cases r1 with
    | scr e=>exact ⟨_,_,rfl,e,Ft ns⟩
  refine ⟨a,rfl,⟨vs,w1.i.seq sq⟩,Ud (xs:=vs) (fun k σ' H'=>∃ own' G' ρ',Sat K C ω G1 G0 H0 own' G' σ' H' ρ'/\I k ρ') ⟨own,G1,ρ,S1.base (Same.refl _),i0⟩ (fun k σ' H' _ ⟨own',G',ρ',S',_⟩=>(S'.kb.trans S'.gr.i).seq sq) (fun k x σ' H' hx ⟨own',G',ρ',S',hi⟩=>?_) fun σ' H' ⟨own',G',ρ',S',hi⟩=>?_⟩
  ·obtain ⟨q,hq,rq⟩:=rp.get hx
   exact hg G1 G0 H0 own' G' σ' H' ρ' x q _ _ S' (rq.mono S'.kb) (ist k q ρ' hq hi) fun own2 σ2 ρ2 S2 _ h2=>hb G1 G0 H0 own2 G' σ2 H' ρ2 _ _ S2 (Sj F S1.kb fun own3 G3 σ3 H3 ρ3 S3 h3=>⟨own3,G3,ρ3,S3,h3⟩) h2
  ·rw [rp.1] at hi
   exact F.nx own' G' σ' H' ρ' (S'.base (S1.kb.trans S'.kb)) (iend ρ' hi)
def uiB (i:Nat):UI:=fun ρ R=>∃ s p ps,ρ[i]? = some s/\(s = .bo p\/s = .sh p)/\(p = .lst ps\/∃ ns,p = .scr ns/\ps = ns.map .int)/\R ps
theorem Agj {top:Nat} {i:Nat} {g:TG} {ug:PV->Bm->(Bm->Prop)->Prop} {tb:TS} {ub:US} (hg:GU K C ω top g ug) (hb:SU K C ω rm tb ub):SU K C ω rm (Rr (Ti K (Gy i)) g tb) (AeV (uiB i) ug ub) :=
 fun B G0 H0 own G σ H ρ D d S F ⟨s,p,ps,es,ek,e,I,i0,ist,iend⟩=>by
  have key:∃ a vs,σ[i]? = some (some (.ref a))/\(∀ G' H',Same G G'->Same H0 H'->Same G' H'->SqL K H' a vs)/\Reps K C G vs ps:=by
   rcases ek with ek | ek
   ·subst ek
    obtain ⟨v,ev,rb⟩:=S.sl i _ es
    rcases e with e | ⟨ns,e,e2⟩
    ·subst e
     rcases rb with rb | ⟨a,e2,vs,h1,h2⟩
     ·cases rb with
      | lst e l q=>exact ⟨_,_,ev,fun G' H' s1 s2 s3=>SqL.of (s3 _ _ (s1 _ _ (S.gr.g _ _ e))),l,fun j x y h1 h2=>(q j x y h1 h2).mono S.gr.g⟩
     ·subst e2
      exact ⟨a,vs,ev,fun G' H' s1 s2 s3=>SqL.of (s2 _ _ h1),h2.mono S.gr.g⟩
    ·subst e e2
     rcases rb with rb | ⟨a,e2,h⟩
     ·cases rb with
      | scr e=>exact ⟨_,_,ev,fun G' H' s1 s2 s3=>s3.seq (s1.seq (S.gr.g.seq e)),Ft ns⟩
     ·exact h.elim
   ·subst ek
    obtain ⟨v,ev,rb⟩:=S.sl i _ es
    rcases e with e | ⟨ns,e,e2⟩
    ·subst e
     cases rb with
     | lst e l q=>exact ⟨_,_,ev,fun G' H' s1 s2 s3=>SqL.of (s3 _ _ (s1 _ _ e)),l,q⟩
    ·subst e e2
     cases rb with
     | scr e=>exact ⟨_,_,ev,fun G' H' s1 s2 s3=>s3.seq (s1.seq e),Ft ns⟩
  obtain ⟨a,vs,ev,sq,rp⟩:=key
  refine ⟨_,ev,a,rfl,⟨vs,sq G H (Same.refl _) S.gr.h S.gr.i⟩,Ud (xs:=vs) (fun k σ' H'=>∃ own' G' ρ',Sat K C ω G G0 H0 own' G' σ' H' ρ'/\I k ρ') ⟨own,G,ρ,S.base (Same.refl _),i0⟩ (fun k σ' H' _ ⟨own',G',ρ',S',_⟩=>sq G' H' S'.kb S'.gr.h S'.gr.i) (fun k x σ' H' hx ⟨own',G',ρ',S',hi⟩=>?_) fun σ' H' ⟨own',G',ρ',S',hi⟩=>?_⟩
  ·obtain ⟨q,hq,rq⟩:=rp.get hx
   exact hg G G0 H0 own' G' σ' H' ρ' x q _ _ S' (rq.mono S'.kb) (ist k q ρ' hq hi) fun own2 σ2 ρ2 S2 _ h2=>hb G G0 H0 own2 G' σ2 H' ρ2 _ _ S2 (Sj F S.kb fun own3 G3 σ3 H3 ρ3 S3 h3=>⟨own3,G3,ρ3,S3,h3⟩) h2
  ·rw [rp.1] at hi
   exact F.nx own' G' σ' H' ρ' (S'.base (S.kb.trans S'.kb)) (iend ρ' hi)
end
section
variable {K:PySem.W.Frag} {C:Addr} {ω:Om}
def boS:Sl->Sl
 | .ow p=>.bo p
 | .fz _ kvs=>.bz kvs
 | .fl _ ps=>.bo (.lst ps)
 | s=>s
def compρ (k:Nat) (fr:List Nat) (ρ:Bm):Bm:=List.replicate k .un ++ fr.map fun i=>boS ((ρ[i]?).getD .un)
theorem Sat.comp {B G0 H0 G1 H1:Hp} {own:Nat->Option Addr} {σ:St} {ρ:Bm} (S:Sat K C ω B G0 H0 own G1 σ H1 ρ) (k:Nat) (fr:List Nat) {G H:Hp} (w:Grow G1 H1 G H):Sat K C Om.no G1 G1 H1 (fun _=>none) G (compσ k fr σ) H (compρ k fr ρ):=by
 refine ⟨w.g,w,?_,fun i j a h=>(by cases h),fun i a h=>(by cases h),fun i s h=>?_,fun _ _ _ z=>z.elim⟩
 ·unfold compσ compρ; simp
 ·by_cases hk:i < k
  ·unfold compρ at h
   rw [List.getElem?_append_left (by rw [List.length_replicate]; exact hk),List.getElem?_replicate,if_pos hk] at h
   cases h; trivial
  ·unfold compρ at h
   rw [List.getElem?_append_right (by rw [List.length_replicate]; omega),List.length_replicate,List.getElem?_map] at h
   obtain ⟨j,hj,e⟩:=Option.map_eq_some_iff.mp h
   have hσ:(compσ k fr σ)[i]? = some (σ[j]?).join:=by
    unfold compσ
    rw [List.getElem?_append_right (by rw [List.length_replicate]; omega),List.length_replicate,List.getElem?_map,hj]; rfl
   cases e2:ρ[j]? with
   | none=>rw [e2] at e; cases e; trivial
   | some s0 =>
    rw [e2] at e
    have q:=S.sl j s0 e2
    cases s0 with
    | un=>cases e; trivial
    | sh p=>cases e; obtain ⟨v,ev,r⟩:=q; exact ⟨v,by rw [hσ,ev]; rfl,r.mono w.g⟩
    | bo p=>cases e; obtain ⟨v,ev,r⟩:=q; exact ⟨v,by rw [hσ,ev]; rfl,r.grow S.gr⟩
    | ow p=>cases e; obtain ⟨a,ev,_,r⟩:=q; exact ⟨_,by rw [hσ,ev]; rfl,.inr ⟨a,rfl,r⟩⟩
    | fz z kvs=>cases e; obtain ⟨ev,_,h1,h2⟩:=q; exact ⟨z.1,z.2.1,z.2.2,by rw [hσ,ev]; rfl,h1,KReps.mono h2 w.g⟩
    | bz kvs=>cases e; obtain ⟨a,o,vs,ev,h1,h2⟩:=q; exact ⟨a,o,vs,by rw [hσ,ev]; rfl,S.gr.h _ _ h1,KReps.mono h2 w.g⟩
    | fl z ps=>cases e; obtain ⟨ev,_,h1,h2⟩:=q; exact ⟨_,by rw [hσ,ev]; rfl,.inr ⟨z.1,rfl,OwnA.ofL h1 h2⟩⟩
def AfL:UT:=fun _ P=>P true
theorem Aa0:TU K C ω AbM AfL:=fun B G0 H0 own G σ H ρ P Q S hu k=>k true G H (Grow.refl S.gr.i) hu
def Zu (ps:List PV) (ug:PV->Bm->(Bm->Prop)->Prop) (uc:UT) (ue:UE) (ρ':Bm) (P:PV->Prop):Prop:=∃ I:Nat->List PV->Prop,I 0 []/\(∀ n p rs,ps[n]? = some p->I n rs->ug p ρ' fun ρ2=>uc ρ2 fun b=>if b = true then ue ρ2 fun q=>I (n + 1) (rs ++ [q]) else I (n + 1) rs)/\∀ rs,I ps.length rs->P (.lst rs)
def CSt (K:PySem.W.Frag) (C:Addr) (G1 H1:Hp) (D:Addr) (I:Nat->List PV->Prop) (n:Nat) (H:Hp):Prop:=∃ G ys rs,Grow G1 H1 G H/\G D = none/\H D = some (.lst ys)/\Reps K C G ys rs/\rs.length <= n/\I n rs
theorem Acv {B G0 H0 G1 H1:Hp} {own:Nat->Option Addr} {σ:St} {ρ:Bm} (S:Sat K C ω B G0 H0 own G1 σ H1 ρ) {k:Nat} {fr:List Nat} {g:TG} {ug:PV->Bm->(Bm->Prop)->Prop} {tc:TT} {uc:UT} {te:TE} {ue:UE} (hg:GU K C Om.no k g ug) (hc:TU K C Om.no tc uc) (he:EU K C Om.no te ue) {D:Addr} (hD:H1 D = none) {I:Nat->List PV->Prop} {n:Nat} (hn:n < 100000) {x:V} {p:PV} {H':Hp} {N:Hp->Prop}
  (rx:∀ G,Same G1 G->Rep K C G x p) (st:CSt K C G1 H1 D I n H') (hN:∀ H'',CSt K C G1 H1 D I (n + 1) H''->N H'') (hs:∀ rs,I n rs->ug p (compρ k fr ρ) fun ρ2=>uc ρ2 fun b=>if b = true then ue ρ2 fun q=>I (n + 1) (rs ++ [q]) else I (n + 1) rs) :
  g x (compσ k fr σ) H' fun σ2 H2=>σ2.drop k = (compσ k fr σ).drop k/\tc σ2 H2 fun b H3=>if b = true then te σ2 H3 (fun y H4=>∃ ys,H4 D = some (.lst ys)/\ys.length < sizeLine/\N (upd H4 D (.lst (ys ++ [y])))) else N H3:=by
 obtain ⟨G,ys,rs,w,gD,eD,ry,hl,hi⟩:=st
 refine hg G1 G1 H1 _ G _ H' _ x p _ _ (S.comp k fr w) (rx G w.g) (hs rs hi) fun own' σ' ρ' S' dr h=>⟨dr,hc G1 G1 H1 own' G σ' H' ρ' _ _ S' h fun b G3 H3 w3 h3=>?_⟩
 cases b with
 | false=>exact Nt (hN _ ⟨G3,ys,rs,w.trans w3,w3.n D _ eD (fun _ z=>nomatch z) gD,w3.h _ _ eD,ry.mono w3.g,by omega,by simpa using h3⟩)
 | true =>
  refine Lh (he G1 G1 H1 own' G3 σ' H3 ρ' _ _ (S'.grow w3) (by simpa using h3) fun y q G4 H4 w4 r4 h4=>?_)
  have w34:=w3.trans w4
  have g4:G4 D = none:=w34.n D _ eD (fun _ z=>nomatch z) gD
  have e4:H4 D = some (.lst ys):=w34.h _ _ eD
  refine ⟨ys,e4,Xs (by rw [ry.1]; omega),hN _ ⟨G4,_,_,⟨(w.trans w34).g,fun b u h=>?_,fun b u h=>?_,(w.trans w34).n⟩,g4,Bk,Wb (ry.mono w34.g) r4,by rw [List.length_append]; simp; omega,h4⟩⟩
  ·rw [Bg (by intro z; subst z; rw [hD] at h; cases h)]; exact (w.trans w34).h _ _ h
  ·rw [Bg (by intro z; subst z; rw [g4] at h; cases h)]; exact w34.i _ _ h
theorem Adi {G1 H1:Hp} {D:Addr} {I:Nat->List PV->Prop} (i:Same G1 H1) (hD:H1 D = none) (h:I 0 []):CSt K C G1 H1 D I 0 (upd H1 D (.lst [])) :=
 ⟨G1,[],[],Grow.own i (Same.new hD),i.free hD,Bk,LAt.nil,by simp,h⟩
def Af1 (ua:UE) (ug:PV->Bm->(Bm->Prop)->Prop) (uc:UT) (ue:UE) (k:Nat) (fr:List Nat):UE:=fun ρ P=>ua ρ fun p=>bL p fun ps=>ps.length <= 100000/\Zu ps ug uc ue (compρ k fr ρ) P
theorem Tk {ta:TE} {ua:UE} {k:Nat} {fr:List Nat} {g:TG} {ug:PV->Bm->(Bm->Prop)->Prop} {tc:TT} {uc:UT} {te:TE} {ue:UE} (ha:EB K C ω ta ua) (hg:GU K C Om.no k g ug) (hc:TU K C Om.no tc uc) (he:EU K C Om.no te ue):EF K C ω (Nz (Ti K ta) g tc te k fr) (Af1 ua ug uc ue k fr) :=
 fun B G0 H0 own G σ H ρ P Q S hu kk=>Ta (AdP (ha B G0 H0 own G σ H ρ _ _ S hu fun v p G1 H1 w1 r1 ⟨ps,e,hl,I,i0,ist,iend⟩=>by
  have S1:=S.grow w1
  obtain ⟨a,vs,rfl,sq,rp⟩:∃ a vs,v = .ref a/\SqL K H1 a vs/\Reps K C G1 vs ps:=by
   rcases e with e | ⟨ns,e,e2⟩
   ·subst e
    obtain ⟨a,vs,rfl,ea,l⟩:=r1.lst w1.i
    exact ⟨a,vs,rfl,SqL.of ea,l⟩
   ·subst e e2
    obtain ⟨a,rfl,ea⟩:=r1.scr w1.i
    exact ⟨a,_,rfl,ea,Ft ns⟩
  refine ⟨a,rfl,⟨vs,sq⟩,fun D hD=>CP.list vs (CSt K C G1 H1 D I) (Adi w1.i hD i0) (fun n H' _ ⟨G',_,_,w,_⟩=>w.h.seq sq) (fun n x H' N hx st hN=>?_) fun H' st=>?_⟩
  ·obtain ⟨q,hq,rq⟩:=rp.get hx
   have hn:n < ps.length:=(List.getElem?_eq_some_iff.mp hq).1
   exact Acv S1 hg hc he hD (by omega) (fun G' s=>rq.mono s) st hN fun rs hi=>ist n q rs hq hi
  ·obtain ⟨G',ys,rs,w,gD,eD,ry,_,hi⟩:=st
   rw [rp.1] at hi
   exact kk D _ G' H' (w1.trans w) (w1.h.free hD) gD (OwnA.ofL eD ry) (iend rs hi)))
end
section
variable {K:PySem.W.Frag} {C:Addr} {ω:Om}
abbrev PSp:=List PV->(PV->Prop)->Prop
def spOf (K:PySem.W.Frag) (C:Addr) (ms:List Bool) (rm:Rm) (psp:PSp):Sp:=fun vs H Q _=>∃ G ps P,Same G H/\ArgsOk K C G H ms vs ps/\psp ps P/\∀ G' H' v p,Grow G H G' H'->ROk K C rm H G' H' v p->P p->Q v H'
def Ug (psp:PSp) (u:UA):UE:=fun ρ P=>u ρ fun ps=>psp ps P
theorem Ss {ms:List Bool} {psp:PSp} {E:XK} {t:TA} {u:UA} (ha:AU K C ω ms t u):EU K C ω (Ob (spOf K C ms .sh psp) [] E t) (Ug psp u) :=
 fun B G0 H0 own G σ H ρ P Q S hu k=>ha B G0 H0 own G σ H ρ _ _ S hu fun vs ps G1 H1 w1 ok h=>by
  rw [List.append_nil]
  exact ⟨G1,ps,P,w1.i,ok,h,fun G' H' v p w r hp=>k v p G' H' (w1.trans w) r hp⟩
theorem Na {ms:List Bool} {psp:PSp} {E:XK} {t:TA} {u:UA} (ha:AU K C ω ms t u):EF K C ω (Ob (spOf K C ms .fr psp) [] E t) (Ug psp u) :=
 fun B G0 H0 own G σ H ρ P Q S hu k=>ha B G0 H0 own G σ H ρ _ _ S hu fun vs ps G1 H1 w1 ok h=>by
  rw [List.append_nil]
  exact ⟨G1,ps,P,w1.i,ok,h,fun G' H' v p w ⟨a,e,n,g,r⟩ hp=>by subst e; exact k a p G' H' (w1.trans w) (w1.h.free n) g r hp⟩
def Dv (n:Nat) (ms:List Bool) (ps:List PV):Bm:=List.zipWith (fun m p=>if m = true then Sl.sh p else Sl.bo p) ms ps ++ List.replicate (n - ps.length) .un
def Gk (rm:Rm) (P:PV->Prop):Bm->Prop:=match rm with
 | .sh=>fun _=>P .non
 | .fr=>fun _=>False
theorem ArgsOk.slots {G H:Hp} {own:Nat->Option Addr}:∀ {ms:List Bool} {vs:List V} {ps:List PV} {i:Nat} {s:Sl} {σ:St} (k:Nat),ArgsOk K C G H ms vs ps->(∀ j v,vs[j]? = some v->σ[k + j]? = some (some v))->(List.zipWith (fun m p=>if m = true then Sl.sh p else Sl.bo p) ms ps)[i]? = some s->SlOk K C G H own G σ H (k + i) s
 | true :: ms,v :: vs,p :: ps,0,s,σ,k,ok,hσ,h=>by cases h; exact ⟨v,hσ 0 v rfl,ok.1⟩
 | false :: ms,v :: vs,p :: ps,0,s,σ,k,ok,hσ,h=>by cases h; exact ⟨v,hσ 0 v rfl,ok.1⟩
 | true :: ms,v :: vs,p :: ps,i + 1,s,σ,k,ok,hσ,h=>by
  have:=ArgsOk.slots (i:=i) (s:=s) (σ:=σ) (own:=own) (k + 1) ok.2 (fun j w hj=>by rw [show k + 1 + j = k + (j + 1) by omega]; exact hσ (j + 1) w (by simpa using hj)) (by simpa using h)
  rwa [show k + 1 + i = k + (i + 1) by omega] at this
 | false :: ms,v :: vs,p :: ps,i + 1,s,σ,k,ok,hσ,h=>by
  have:=ArgsOk.slots (i:=i) (s:=s) (σ:=σ) (own:=own) (k + 1) ok.2 (fun j w hj=>by rw [show k + 1 + j = k + (j + 1) by omega]; exact hσ (j + 1) w (by simpa using hj)) (by simpa using h)
  rwa [show k + 1 + i = k + (i + 1) by omega] at this
 | [],_,_,_,_,_,_,_,_,h=>by simp at h
 | _ :: _,_,[],_,_,_,_,_,_,h=>by simp at h
 | true :: _,[],_ :: _,_,_,_,_,ok,_,_=>by cases ok
 | false :: _,[],_ :: _,_,_,_,_,ok,_,_=>by cases ok
theorem Gi {ms:List Bool} {rm:Rm} {psp:PSp} {N:List Str} {vs:List V} {H:Hp} {Q:VK} {E:XK} {t:TS} {u:US} (h:spOf K C ms rm psp vs H Q E) (hn:ms.length <= N.length) (hs:SU K C Om.no rm t u)
  (hp:∀ ps P,psp ps P->u ⟨Gk rm P,P,fun _=>False,fun _=>False⟩ (Dv N.length ms ps)):t { nx:=fun _ H'=>Q .non H',rt:=Q } (L2.Nx N vs) H:=by
 obtain ⟨G,ps,P,i,ok,hq,k⟩:=h
 obtain ⟨l1,l2⟩:=ok.len
 have hz:(List.zipWith (fun m p=>if m = true then Sl.sh p else Sl.bo p) ms ps).length = ps.length:=by rw [List.length_zipWith,l2]; omega
 refine hs G G H (fun _=>none) G _ H _ _ ⟨Gk rm P,P,fun _=>False,fun _=>False⟩ ⟨Same.refl _,Grow.refl i,?_,fun i j a z=>(by cases z),fun i a z=>(by cases z),fun j s hj=>?_,fun _ _ _ z=>z.elim⟩ ⟨fun own' G' σ' H' ρ' S' q=>?_,fun G' H' v p w r hp=>k G' H' v p w r hp,fun _ _ _ _ _ _ q=>q.elim,fun _ _ _ _ _ _ q=>q.elim⟩ (hp ps P hq)
 ·unfold L2.Nx Dv
  rw [List.length_append,List.length_append,List.length_map,hz,List.length_replicate,List.length_replicate,l1,l2]
 ·unfold Dv at hj
  by_cases z:j < ps.length
  ·rw [List.getElem?_append_left (by rw [hz]; exact z)] at hj
   have q:=ArgsOk.slots (own:=fun _=>none) (σ:=L2.Nx N vs) 0 ok (fun j v hv=>by
    unfold L2.Nx
    rw [Nat.zero_add,List.getElem?_append_left (by rw [List.length_map]; exact (List.getElem?_eq_some_iff.mp hv).1),List.getElem?_map,hv]; rfl) hj
   rwa [Nat.zero_add] at q
  ·rw [List.getElem?_append_right (by rw [hz]; omega),List.getElem?_replicate] at hj
   split at hj
   ·cases hj; trivial
   ·cases hj
 ·cases rm with
  | sh=>exact k G' H' .non .non S'.gr .non q
  | fr=>exact q.elim
theorem spOf.len {ms:List Bool} {rm:Rm} {psp:PSp} {vs:List V} {H:Hp} {Q:VK} {E:XK} (h:spOf K C ms rm psp vs H Q E):vs.length = ms.length:=by
 obtain ⟨G,ps,P,i,ok,_⟩:=h
 exact ok.len.1
end
section
variable {K:PySem.W.Frag} {C:Addr} {ω:Om}
def Uy:PV->Bool
 | .non=>true
 | .int _=>true
 | .str _=>true
 | _=>false
theorem Aat {G:Hp} {v:V} {p:PV} (h:Rep K C G v p) (f:Uy p = true):Jq v = true:=by
 cases h <;> first | rfl | (cases f; done)
theorem Agy {G:Hp} {v w:V} {p q:PV} (h1:Rep K C G v p) (h2:Rep K C G w q) (f1:Uy p = true) (f2:Uy q = true):eqV v w = true ↔ p = q:=by
 cases h1 <;> first | (cases f1; done) | (cases h2 <;> first | (cases f2; done) | (simp [eqV]))
inductive Cmp:Nat->PV->PV->Prop where
 | flat {n:Nat} {p q:PV} (hp:Uy p = true) (hq:Uy q = true):Cmp n p q
 | bl {n:Nat} {x y:Bool}:Cmp n (.bl x) (.bl y)
 | lst {n:Nat} {xs ys:List PV} (h:xs.length = ys.length->∀ (i:Nat) (x y:PV),xs[i]? = some x->ys[i]? = some y->Cmp n x y):Cmp (n + 1) (.lst xs) (.lst ys)
 | tup {n:Nat} {xs ys:List PV} (h:∀ (i:Nat) (x y:PV),xs[i]? = some x->ys[i]? = some y->Cmp n x y):Cmp (n + 1) (.tup xs) (.tup ys)
theorem Ld {α:Type} {xs ys:List α} (hl:xs.length = ys.length) (h:∀ (i:Nat) (x y:α),xs[i]? = some x->ys[i]? = some y->x = y):xs = ys:=by
 refine List.ext_getElem? fun i=>?_
 cases e1:xs[i]? with
 | none=>rw [List.getElem?_eq_none (by have:=List.getElem?_eq_none_iff.mp e1; omega)]
 | some x =>
  have hi:i < ys.length:=by have:=(List.getElem?_eq_some_iff.mp e1).1; omega
  rw [List.getElem?_eq_getElem hi,h i x _ e1 (List.getElem?_eq_getElem hi)]
theorem Cmp.fn {G:Hp} {n:Nat} {p q:PV} (c:Cmp n p q):∀ {v:V},Rep K C G v p->Rep K C G v q->p = q:=by
 induction c with
 | flat hp hq=>intro v h1 h2; cases h1 <;> first | (cases hp; done) | (cases h2 <;> first | (cases hq; done) | rfl)
 | bl=>intro v h1 h2; cases h1; cases h2; rfl
 | @lst n xs ys h ih =>
  intro v h1 h2
  cases h1 with
  | lst e1 l1 q1=>cases h2 with
   | lst e2 l2 q2 =>
    rw [e1] at e2; cases e2
    have hl:xs.length = ys.length:=l1.symm.trans l2
    refine congrArg _ (Ld hl fun i x y hx hy=>?_)
    have hi:=(List.getElem?_eq_some_iff.mp hx).1
    obtain ⟨w,hw⟩:=(⟨_,List.getElem?_eq_getElem (by rw [l1]; exact hi)⟩:∃ w,_ = some w)
    exact ih hl i x y hx hy (q1 i w x hw hx) (q2 i w y hw hy)
 | @tup n xs ys h ih =>
  intro v h1 h2
  cases h1 with
  | tup e1 l1 q1=>cases h2 with
   | tup e2 l2 q2 =>
    rw [e1] at e2; cases e2
    have hl:xs.length = ys.length:=l1.symm.trans l2
    refine congrArg _ (Ld hl fun i x y hx hy=>?_)
    have hi:=(List.getElem?_eq_some_iff.mp hx).1
    obtain ⟨w,hw⟩:=(⟨_,List.getElem?_eq_getElem (by rw [l1]; exact hi)⟩:∃ w,_ = some w)
    exact ih i x y hx hy (q1 i w x hw hx) (q2 i w y hw hy)
noncomputable def pd (a:Prop):Bool:=@decide a (Classical.propDecidable a)
theorem pd_iff {a:Prop}:pd a = true ↔ a:=by unfold pd; exact @decide_eq_true_iff a (Classical.propDecidable a)
theorem Sd {n:Nat} {e:Nat->Bool}:(List.range n).all e = true ↔ ∀ i,i < n->e i = true:=by
 rw [List.all_eq_true]
 exact ⟨fun h i hi=>h i (List.mem_range.mpr hi),fun h i hi=>h i (List.mem_range.mp hi)⟩
theorem Nf {a b:Bool} (h:a = true ↔ b = true):a = b:=by
 cases a <;> cases b <;> simp_all
theorem Cmp.eqD {G H:Hp} (s:Same G H) {n:Nat} {p q:PV} (c:Cmp n p q):∀ {v w:V} {b:Bool},Rep K C G v p->Rep K C G w q->(b = true ↔ p = q)->EqD K H n v w b:=by
 induction c with
 | flat hp hq =>
  intro v w b h1 h2 hb
  have e:b = eqV v w:=Nf (hb.trans (Agy h1 h2 hp hq).symm)
  rw [e]
  exact EqD.flat (Aat h1 hp) (Aat h2 hq)
 | @bl n x y =>
  intro v w b h1 h2 hb
  cases h1
  cases h2
  have e:b = eqV (.bl x) (.bl y):=Nf (by rw [hb]; cases x <;> cases y <;> simp [eqV])
  rw [e]
  exact EqD.flat rfl rfl
 | @lst n xs ys h ih =>
  intro v w b h1 h2 hb
  have cc:Cmp (n + 1) (.lst xs) (.lst ys):=.lst h
  have h1':=h1
  have h2':=h2
  cases h1 with
  | @lst a1 vs1 _ e1 l1 q1=>cases h2 with
   | @lst a2 vs2 _ e2 l2 q2 =>
    by_cases z:a1 = a2
    ·subst z
     rw [show b = true from hb.mpr (cc.fn h1' h2')]
     exact EqD.same _
    ·by_cases hl:xs.length = ys.length
     ·have e:b = (List.range vs1.length).all (fun i=>pd (xs[i]? = ys[i]?)):=Nf (by
       rw [hb,Sd]
       constructor
       ·intro e i _; rw [pd_iff,PV.lst.inj e]
       ·intro e
        refine congrArg _ (List.ext_getElem? fun i=>?_)
        by_cases hi:i < vs1.length
        ·exact pd_iff.mp (e i hi)
        ·rw [List.getElem?_eq_none (by omega),List.getElem?_eq_none (by omega)])
      rw [e]
      refine EqD.lst _ z (SqL.of (s _ _ e1)) (SqL.of (s _ _ e2)) (by omega) fun i x y hx hy=>?_
      have hi:=(List.getElem?_eq_some_iff.mp hx).1
      have hx':xs[i]? = some xs[i]:=List.getElem?_eq_getElem (by omega)
      have hy':ys[i]? = some ys[i]:=List.getElem?_eq_getElem (by omega)
      refine ih hl i _ _ hx' hy' (q1 i x _ hx hx') (q2 i y _ hy hy') ?_
      rw [pd_iff,hx',hy']
      exact ⟨fun z=>Option.some.inj z,fun z=>congrArg some z⟩
     ·have e:b = false:=by
       cases b with
       | false=>rfl
       | true=>exact absurd (congrArg List.length (PV.lst.inj (hb.mp rfl))) hl
      rw [e]
      exact EqD.lstN z (SqL.of (s _ _ e1)) (SqL.of (s _ _ e2)) (by omega)
 | @tup n xs ys h ih =>
  intro v w b h1 h2 hb
  have cc:Cmp (n + 1) (.tup xs) (.tup ys):=.tup h
  have h1':=h1
  have h2':=h2
  cases h1 with
  | @tup a1 vs1 _ e1 l1 q1=>cases h2 with
   | @tup a2 vs2 _ e2 l2 q2 =>
    by_cases z:a1 = a2
    ·subst z
     rw [show b = true from hb.mpr (cc.fn h1' h2')]
     exact EqD.same _
    ·have e:b = ((List.range (min vs1.length vs2.length)).all (fun i=>pd (xs[i]? = ys[i]?)) && vs1.length == vs2.length):=Nf (by
      rw [hb,Bool.and_eq_true,Sd]
      constructor
      ·intro e
       have e':=PV.tup.inj e
       exact ⟨fun i _=>by rw [pd_iff,e'],by rw [l1,l2,e']; exact beq_self_eq_true _⟩
      ·rintro ⟨e,el⟩
       have el':vs1.length = vs2.length:=by simpa using el
       refine congrArg _ (List.ext_getElem? fun i=>?_)
       by_cases hi:i < vs1.length
       ·exact pd_iff.mp (e i (by omega))
       ·rw [List.getElem?_eq_none (by omega),List.getElem?_eq_none (by omega)])
     rw [e]
     refine EqD.tup _ z (SqT.of (s _ _ e1)) (SqT.of (s _ _ e2)) fun i x y hx hy=>?_
     have hi:=(List.getElem?_eq_some_iff.mp hx).1
     have hj:=(List.getElem?_eq_some_iff.mp hy).1
     have hx':xs[i]? = some xs[i]:=List.getElem?_eq_getElem (by omega)
     have hy':ys[i]? = some ys[i]:=List.getElem?_eq_getElem (by omega)
     refine ih i _ _ hx' hy' (q1 i x _ hx hx') (q2 i y _ hy hy') ?_
     rw [pd_iff,hx',hy']
     exact ⟨fun z=>Option.some.inj z,fun z=>congrArg some z⟩
def CmpL (xs ys:List PV):Prop:=xs.length = ys.length->∀ (i:Nat) (x y:PV),xs[i]? = some x->ys[i]? = some y->Cmp 40 x y
theorem CmpL.leq {G H:Hp} (s:Same G H) {vs ws:List V} {xs ys:List PV} (c:CmpL xs ys) (h1:Reps K C G vs xs) (h2:Reps K C G ws ys) {b:Bool} (hb:b = true ↔ xs = ys):LEq K H vs ws b:=by
 by_cases hl:xs.length = ys.length
 ·refine .inr ⟨by rw [h1.1,h2.1,hl],fun i=>pd (xs[i]? = ys[i]?),fun i x y hx hy=>?_,Nf ?_⟩
  ·obtain ⟨p,hp,rp⟩:=h1.get hx
   obtain ⟨q,hq,rq⟩:=h2.get hy
   refine (c hl i p q hp hq).eqD s rp rq ?_
   rw [pd_iff,hp,hq]
   exact ⟨fun z=>Option.some.inj z,fun z=>congrArg some z⟩
  ·rw [hb,Sd,h1.1]
   constructor
   ·intro e i _; rw [pd_iff,e]
   ·intro e
    refine List.ext_getElem? fun i=>?_
    by_cases hi:i < xs.length
    ·exact pd_iff.mp (e i hi)
    ·rw [List.getElem?_eq_none (by omega),List.getElem?_eq_none (by omega)]
 ·refine .inl ⟨by rw [h1.1,h2.1]; exact hl,?_⟩
  cases b with
  | false=>rfl
  | true=>exact absurd (congrArg List.length (hb.mp rfl)) hl
def Zt (neg:Bool) (p q:PV) (P:PV->Prop):Prop:=∃ xs ys,p = .lst xs/\q = .lst ys/\CmpL xs ys/\∀ b:Bool,(b = true ↔ xs = ys)->P (.bl (if neg then !b else b))
def Ajc (neg:Bool) (ua ub:UE):UE:=fun ρ P=>ua ρ fun p=>ub ρ fun q=>Zt neg p q P
theorem Rx {neg:Bool} {ta tb:TE} {ua ub:UE} (ha:EB K C ω ta ua) (hb:EB K C ω tb ub):EU K C ω (tOp (Vn K neg) ta tb) (Ajc neg ua ub) :=
 fun B G0 H0 own G σ H ρ P Q S hu k=>two ha hb S hu fun v w p q G' H' gr r1 r2 ⟨xs,ys,e1,e2,c,h⟩=>by
  subst e1 e2
  obtain ⟨a,vs,rfl,ea,l⟩:=r1.lst gr.i
  obtain ⟨b,ws,rfl,eb,l2⟩:=r2.lst gr.i
  exact ⟨a,b,vs,ws,pd (xs = ys),rfl,rfl,SqL.of ea,SqL.of eb,c.leq gr.i l l2 pd_iff,k _ _ G' H' gr (.bl _) (h _ pd_iff)⟩
end
section
variable {K:PySem.W.Frag} {C:Addr} {ω:Om}
def vP:V->PV
 | .int i=>.int i
 | .str x=>.str x
 | .bl b=>.bl b
 | _=>.non
def scV:V->Bool
 | .int _=>true
 | .str _=>true
 | .bl _=>true
 | .non=>true
 | _=>false
theorem AhO {G:Hp} {v w:V} (hs:scV w = true) (h:Rep K C G v (vP w)):v = w:=by
 cases w <;> first | (cases hs; done) | (cases h; rfl)
theorem Ado {G:Hp} {w:V} (hs:scV w = true):Rep K C G w (vP w):=by
 cases w <;> first | (cases hs; done) | constructor
theorem Acw {G:Hp} {vs ws:List V} (hs:∀ w ∈ ws,scV w = true) (h:Reps K C G vs (ws.map vP)):vs = ws:=by
 refine Ld (by rw [h.1,List.length_map]) fun i x y hx hy=>?_
 exact AhO (hs y (List.mem_of_getElem? hy)) (h.2 i x (vP y) hx (by rw [List.getElem?_map,hy]; rfl))
theorem Aci {G:Hp} {ws:List V} (hs:∀ w ∈ ws,scV w = true):Reps K C G ws (ws.map vP) :=
 ⟨by rw [List.length_map],fun i v p h1 h2=>by
  rw [List.getElem?_map,h1] at h2
  cases h2
  exact Ado (hs v (List.mem_of_getElem? h1))⟩
theorem Tw {G:Hp} {v:V} {ws:List V} (hs:∀ w ∈ ws,scV w = true) (h:Rep K C G v (.tup (ws.map vP))):∃ p,v = .ref p/\G p = some (.tup ws):=by
 cases h with
 | tup e l q=>rw [Acw hs ⟨l,q⟩] at e; exact ⟨_,rfl,e⟩
theorem Rg {G:Hp} {p:Addr} {ws:List V} (hs:∀ w ∈ ws,scV w = true) (e:G p = some (.tup ws)):Rep K C G (.ref p) (.tup (ws.map vP)):=Rep.ofT e (Aci hs)
def sgW (s:Sg):List V:=[.int s.1,.str s.2.1,.int s.2.2]
def prW (m:Int × Int):List V:=[.int m.1,.int m.2]
def jnW (j:Jn):List V:=[.int j.1,.int j.2.1,.int j.2.2]
def sgP (s:Sg):PV:=.tup [.int s.1,.str s.2.1,.int s.2.2]
def prP (m:Int × Int):PV:=.tup [.int m.1,.int m.2]
def jnP (j:Jn):PV:=.tup [.int j.1,.int j.2.1,.int j.2.2]
theorem AcZ (s:Sg):∀ w ∈ sgW s,scV w = true:=by intro w hw; simp [sgW] at hw; rcases hw with rfl | rfl | rfl <;> rfl
theorem Xy (s:Int × Int):∀ w ∈ prW s,scV w = true:=by intro w hw; simp [prW] at hw; rcases hw with rfl | rfl <;> rfl
theorem AcB (s:Jn):∀ w ∈ jnW s,scV w = true:=by intro w hw; simp [jnW] at hw; rcases hw with rfl | rfl | rfl <;> rfl
theorem Yr {G:Hp} {v:V} {s:Sg}:Rep K C G v (sgP s) ↔ TripAt G v s:=⟨fun h=>let ⟨p,e,hp⟩:=Tw (AcZ s) h; ⟨p,e,hp⟩,fun ⟨p,e,hp⟩=>by subst e; exact Rg (AcZ s) hp⟩
theorem Yf {G:Hp} {v:V} {s:Int × Int}:Rep K C G v (prP s) ↔ PairAt G v s:=⟨fun h=>let ⟨p,e,hp⟩:=Tw (Xy s) h; ⟨p,e,hp⟩,fun ⟨p,e,hp⟩=>by subst e; exact Rg (Xy s) hp⟩
theorem Aai {G:Hp} {v:V} {s:Jn}:Rep K C G v (jnP s) ↔ TrjAt G v s:=⟨fun h=>let ⟨p,e,hp⟩:=Tw (AcB s) h; ⟨p,e,hp⟩,fun ⟨p,e,hp⟩=>by subst e; exact Rg (AcB s) hp⟩
theorem Jv {α:Type} {R:Hp->V->α->Prop} {f:α->PV} (hf:∀ {G:Hp} {v:V} {s:α},Rep K C G v (f s) ↔ R G v s) {G:Hp} {vs:List V} {S:List α}:Reps K C G vs (S.map f) ↔ LAt R G vs S:=by
 constructor
 ·intro h
  refine ⟨by rw [h.1,List.length_map],fun i x y hx hy=>hf.mp (h.2 i x (f y) hx (by rw [List.getElem?_map,hy]; rfl))⟩
 ·intro h
  refine ⟨by rw [h.1,List.length_map],fun i x y hx hy=>?_⟩
  rw [List.getElem?_map] at hy
  obtain ⟨s,hs,e⟩:=Option.map_eq_some_iff.mp hy
  rw [<- e]
  exact hf.mpr (h.2 i x s hx hs)
def Od (G H H':Hp):Hp:=fun a=>match H' a with
 | some (.tup xs)=>some (.tup xs)
 | o=>match H a with
  | none=>o
  | some _=>G a
theorem Gj {G H H':Hp} {a:Addr} {xs:List V} (e:H' a = some (.tup xs)):Od G H H' a = some (.tup xs):=by unfold Od; rw [e]
theorem Fi {G H H':Hp} {a:Addr} {o:HO} (n:H a = none) (e:H' a = some o):Od G H H' a = some o:=by
 unfold Od; rw [e,n]; cases o <;> rfl
theorem Ru {G H H':Hp} {a:Addr} {o:HO} (h:H a = some o) (s:Same H H') (t:Su o):Od G H H' a = G a:=by
 unfold Od; rw [s _ _ h,h]
 cases o <;> first | rfl | exact absurd rfl (t _)
theorem Uk {G H H':Hp} (i:Same G H) (s:Same H H'):Grow G H (Od G H H') H':=by
 refine ⟨fun a o h=>?_,s,fun a o h=>?_,fun a o h t hg=>by rw [Ru h s t]; exact hg⟩
 ·have h1:=i _ _ h
  by_cases t:Su o
  ·rw [Ru h1 s t]; exact h
  ·have:∃ xs,o = .tup xs:=Classical.byContradiction fun z=>t fun xs w=>z ⟨xs,w⟩
   obtain ⟨xs,rfl⟩:=this
   exact Gj (s _ _ h1)
 ·cases e:H' a with
  | none =>
   unfold Od at h; rw [e] at h
   cases e2:H a with
   | none=>rw [e2] at h; cases h
   | some u=>rw [s _ _ e2] at e; cases e
  | some u =>
   by_cases t:Su u
   ·cases e2:H a with
    | none=>rw [Fi e2 e] at h; exact h
    | some w =>
     have:=s _ _ e2
     rw [e] at this; cases this
     rw [Ru e2 s t] at h
     rw [i _ _ h] at e2; cases e2; rfl
   ·have:∃ xs,u = .tup xs:=Classical.byContradiction fun z=>t fun xs w=>z ⟨xs,w⟩
    obtain ⟨xs,rfl⟩:=this
    rw [Gj e] at h; exact h
theorem Aki {G H:Hp} {l m n:Bool} {vs:List V} {ps:List PV} (h:ArgsOk K C G H [l,m,n] vs ps):∃ v w x p q r,vs = [v,w,x]/\ps = [p,q,r]/\RepB K C G H v p/\RepB K C G H w q/\RepB K C G H x r:=by
 match vs,ps,l,h with
 | v :: vs,p :: ps,true,h=>obtain ⟨w,x,q,r,rfl,rfl,h1,h2⟩:=Uq h.2; exact ⟨v,w,x,p,q,r,rfl,rfl,.inl h.1,h1,h2⟩
 | v :: vs,p :: ps,false,h=>obtain ⟨w,x,q,r,rfl,rfl,h1,h2⟩:=Uq h.2; exact ⟨v,w,x,p,q,r,rfl,rfl,h.1,h1,h2⟩
 | [],_,true,h=>cases h
 | [],_,false,h=>cases h
 | _ :: _,[],true,h=>cases h
 | _ :: _,[],false,h=>cases h
def bMk (P:PV->Prop) (ps:List PV):Prop:=∃ S M J,ps = [.lst (S.map sgP),.lst (M.map prP),.lst (J.map jnP)]/\(∀ s ∈ S,Xj s)/\(∀ m ∈ M,0 <= m.1/\0 <= m.2)/\(S.map (·.1) ++ ends M).Nodup/\AbH (kK S ++ kM M) J/\S.length + 2 * M.length <= 400/\P (.bk S M J)
def uMk (u:UA):UE:=fun ρ P=>u ρ fun ps=>bMk P ps
theorem Aj9 {E:XK} {t:TA} {u:UA} (ha:AU K C ω [false,false,false] t u):EU K C ω (Afl C (AaH C) [] E t) (uMk u) :=
 fun B G0 H0 own G σ H ρ P Q St hu k=>ha B G0 H0 own G σ H ρ _ _ St hu fun vs ps G1 H1 w1 ok ⟨S,M,J,e,so,mo,nd,jo,hl,h⟩=>by
  obtain ⟨v,w,y,p,q,r,rfl,e2,r1,r2,r3⟩:=Aki ok
  rw [e] at e2; cases e2
  obtain ⟨a1,xs,rfl,ea1,l1⟩:=r1.lst w1.i
  obtain ⟨a2,ys,rfl,ea2,l2⟩:=r2.lst w1.i
  obtain ⟨a3,zs,rfl,ea3,l3⟩:=r3.lst w1.i
  intro x dx hx hdx ndx
  have sB:Same H1 (upd (upd H1 dx (.own x)) x (.ins C dx [])):=fun q' o e=>by rw [Bg (Bn e hx),Bg (Bn e hdx)]; exact e
  have sG:=w1.i.trans sB
  refine ⟨x,dx,a1,a2,a3,xs,ys,zs,S,M,J,rfl,Bk,sB _ _ ea1,sB _ _ ea2,sB _ _ ea3,((Jv Yr).mp l1).tripS sG,((Jv Yf).mp l2).pairS sG,((Jv Aai).mp l3).trjS sG,so,mo,nd,jo,hl,fun H2 kvs dx' dk dr dm dp dw kp fk fr fm fp fw e1 e2 e3 e4 e5 e6 lkv=>⟨rfl,?_⟩⟩
  have s2:Same H1 H2:=fun q' o e=>kp q' o (sB q' o e) (Bn e hx)
  have g:=Uk w1.i s2
  refine k _ _ _ H2 (w1.trans g) (.bk (kvs:=kvs) ⟨dx',dk,dr,dm,dp,dw,Fi hx e1,Fi (sB.free fk) e2,Fi (sB.free fr) e3,Fi (sB.free fm) e4,Fi (sB.free fp) e5,Fi (sB.free fw) e6⟩ ?_) h
  exact lkv.mono fun _ _ ⟨z1,p,z2,z3⟩=>⟨z1,p,z2,Gj z3⟩
def Ak2:V->Str
 | .str x=>x
 | _=>"plain"
def Aig:V->Int
 | .int i=>i
 | _=>0
def Of (S:List Sg) (M:List (Int × Int)) (n:Int):Str:=Ak2 ((Cd (kK S ++ kM M) (Sum.inl n)).getD (.str "plain"))
def Cn (S:List Sg) (n:Int):Int:=Aig ((Cd (kR S) (Sum.inl n)).getD (.int 0))
def Abd (J:List Jn) (n:Int):PV:=match Ce J n with
 | some m=>.tup [.int m.1,.int m.2]
 | none=>.non
def Xu (J:List Jn) (a b:Int):PV:=vP ((Cd (kW J) [Sum.inl a,Sum.inl b]).getD .non)
theorem Vv {κ:Type} [DecidableEq κ] {kvs:List (κ × V)} {k:κ} {v:V} (h:Cd kvs k = some v):∃ x,(x,v) ∈ kvs:=by
 unfold Cd at h
 obtain ⟨kv,h1,h2⟩:=Option.map_eq_some_iff.mp h
 exact ⟨kv.1,by rw [<- h2]; exact List.mem_of_find?_eq_some h1⟩
theorem Ag2 {M:List (Int × Int)} {x:Key} {v:V} (h:(x,v) ∈ kM M):∃ s,v = .str s:=by
 induction M with
 | nil=>cases h
 | cons m r ih =>
  rcases List.mem_cons.mp h with e | h
  ·cases e; exact ⟨_,rfl⟩
  ·rcases List.mem_cons.mp h with e | h
   ·cases e; exact ⟨_,rfl⟩
   ·exact ih h
theorem Ahq (S:List Sg) (M:List (Int × Int)) (n:Int):(Cd (kK S ++ kM M) (Sum.inl n)).getD (.str "plain") = .str (Of S M n):=by
 unfold Of
 cases e:Cd (kK S ++ kM M) (Sum.inl n) with
 | none=>rfl
 | some v =>
  obtain ⟨x,hx⟩:=Vv e
  rcases List.mem_append.mp hx with h | h
  ·obtain ⟨s,_,e2⟩:=List.mem_map.mp h; cases e2; rfl
  ·obtain ⟨s,rfl⟩:=Ag2 h; rfl
theorem AiK (S:List Sg) (n:Int):(Cd (kR S) (Sum.inl n)).getD (.int 0) = .int (Cn S n):=by
 unfold Cn
 cases e:Cd (kR S) (Sum.inl n) with
 | none=>rfl
 | some v =>
  obtain ⟨x,hx⟩:=Vv e
  obtain ⟨s,_,e2⟩:=List.mem_map.mp hx; cases e2; rfl
theorem Ajf {G:Hp} (J:List Jn) (a b:Int):Rep K C G ((Cd (kW J) [Sum.inl a,Sum.inl b]).getD .non) (Xu J a b):=by
 unfold Xu
 refine Ado ?_
 cases e:Cd (kW J) ([Sum.inl a,Sum.inl b]:List Key) with
 | none=>rfl
 | some v=>obtain ⟨x,hx⟩:=Vv e; obtain ⟨s,_,e2⟩:=List.mem_map.mp hx; cases e2; rfl
theorem Ah2 {G:Hp} {kvs:List (Key × V)} {J:List Jn} (l:LAt KvAt G kvs J) (n:Int):Rep K C G ((Cd kvs (Sum.inl n)).getD .non) (Abd J n):=by
 unfold Abd
 rcases Vd l n with ⟨h1,h2⟩ | ⟨m,p,h1,h2,h3⟩
 ·rw [h1,h2]; exact .non
 ·rw [h1,h2]; exact Rg (Xy m) h3
def bBk (p:PV) (R:List Sg->List (Int × Int)->List Jn->Prop):Prop:=∃ S M J,p = .bk S M J/\R S M J
def uM1 (f:List Sg->List (Int × Int)->List Jn->Int->PV) (ua ub:UE):UE:=fun ρ P=>ua ρ fun p=>bBk p fun S M J=>ub ρ fun q=>bU (fun n=>f S M J n) q P
theorem RepB.bk {G H:Hp} {v:V} {S:List Sg} {M:List (Int × Int)} {J:List Jn} (h:RepB K C G H v (.bk S M J)):∃ b kvs,v = .ref b/\BookAt C G b (kK S ++ kM M) (kR S) (kB M) kvs (kW J)/\LAt KvAt G kvs J:=by
 rcases h with h | ⟨a,_,h⟩
 ·cases h with
  | bk h l=>exact ⟨_,_,rfl,h,l⟩
 ·exact h.elim
theorem Abr {nm:Str} {E:XK} {sp:Sp} {f:List Sg->List (Int × Int)->List Jn->Int->PV} {ta tb:TE} {ua ub:UE} (hm:∀ {dk dr dm dp dw:Addr},(bkF dk dr dm dp dw).lookup nm = none)
  (hs:∀ G H b S M J kvs n Q,Same G H->BookAt C G b (kK S ++ kM M) (kR S) (kB M) kvs (kW J)->LAt KvAt G kvs J->(∀ v,Rep K C G v (f S M J n)->Q v H)->sp [.ref b,.int n] H Q E)
  (ha:EB K C ω ta ua) (hb:EB K C ω tb ub):EU K C ω (Sy C nm sp [] E ta (Jo tb Qj)) (uM1 f ua ub) :=
 fun B G0 H0 own G σ H ρ P Q St hu k=>ha B G0 H0 own G σ H ρ _ _ St hu fun v p G1 H1 w1 r1 ⟨S,M,J,e,h1⟩=>by
  subst e
  obtain ⟨b,kvs,rfl,bk,l⟩:=r1.bk
  refine Oi (bk.mono fun _ _ e _=>w1.i _ _ e) hm (hb B G0 H0 own G1 σ H1 ρ _ _ (St.grow w1) h1 fun w q G2 H2 w2 r2 ⟨n,e,h⟩=>?_)
  subst e
  rw [r2.int]
  exact hs G2 H2 b S M J kvs n Q w2.i (bk.mono fun _ _ e _=>w2.g _ _ e) (l.kvS w2.g) fun v rv=>k v _ G2 H2 (w1.trans w2) rv h
theorem AaR {E:XK} {ta tb:TE} {ua ub:UE} (ha:EB K C ω ta ua) (hb:EB K C ω tb ub):EU K C ω (Sy C "kind" (Aax C) [] E ta (Jo tb Qj)) (uM1 (fun S M _ n=>.str (Of S M n)) ua ub) :=
 Abr Xv (fun G H b S M J kvs n Q i bk l k=>⟨b,n,_,_,_,_,_,rfl,bk.mono fun _ _ e _=>i _ _ e,by rw [Ahq]; exact k _ (.str _)⟩) ha hb
theorem Aaq {E:XK} {ta tb:TE} {ua ub:UE} (ha:EB K C ω ta ua) (hb:EB K C ω tb ub):EU K C ω (Sy C "rank" (AaV C) [] E ta (Jo tb Qj)) (uM1 (fun S _ _ n=>.int (Cn S n)) ua ub) :=
 Abr Zc (fun G H b S M J kvs n Q i bk l k=>⟨b,n,_,_,_,_,_,rfl,bk.mono fun _ _ e _=>i _ _ e,by rw [AiK]; exact k _ (.int _)⟩) ha hb
theorem Aei {E:XK} {ta tb:TE} {ua ub:UE} (ha:EB K C ω ta ua) (hb:EB K C ω tb ub):EU K C ω (Sy C "parts" (Zo C) [] E ta (Jo tb Qj)) (uM1 (fun _ _ J n=>Abd J n) ua ub) :=
 Abr Wh (fun G H b S M J kvs n Q i bk l k=>⟨b,n,_,_,_,_,_,rfl,bk.mono fun _ _ e _=>i _ _ e,k _ (Ah2 l n)⟩) ha hb
def uM2 (f:List Jn->Int->Int->PV) (ua ub uc:UE):UE:=fun ρ P=>ua ρ fun p=>bBk p fun S M J=>ub ρ fun q=>uc ρ fun r=>bI0 (f J) q r P
theorem Acd {E:XK} {ta tb tc:TE} {ua ub uc:UE} (ha:EB K C ω ta ua) (hb:EB K C ω tb ub) (hc:EB K C ω tc uc):EU K C ω (Sy C "joined" (Wv C) [] E ta (Jo tb (Jo tc Qj))) (uM2 Xu ua ub uc) :=
 fun B G0 H0 own G σ H ρ P Q St hu k=>ha B G0 H0 own G σ H ρ _ _ St hu fun v p G1 H1 w1 r1 ⟨S,M,J,e,h1⟩=>by
  subst e
  obtain ⟨b,kvs,rfl,bk,l⟩:=r1.bk
  refine Oi (bk.mono fun _ _ e _=>w1.i _ _ e) Vc (hb B G0 H0 own G1 σ H1 ρ _ _ (St.grow w1) h1 fun w q G2 H2 w2 r2 h2=>hc B G0 H0 own G2 σ H2 ρ _ _ ((St.grow w1).grow w2) h2 fun x r G3 H3 w3 r3 ⟨m,n,e1,e2,h⟩=>?_)
  subst e1 e2
  rw [(r2.grow w3).int,r3.int]
  have w23:=w2.trans w3
  refine ⟨b,m,n,_,_,_,_,_,rfl,bk.mono fun _ _ e _=>w3.i _ _ (w23.g _ _ e),fun x hx=>?_⟩
  exact k _ _ G3 _ ((w1.trans w23).trans (Grow.own w3.i (Same.new hx))) (Ajf J m n) h
end
section
variable {ρ:Bm} {P:PV->Prop} {B:Bool->Prop} {R:Bm->Prop} {d:Fq} {ua ub uc:UE} {ta tb:UT} {u w:US} {x y:PV}
theorem Afs (q:u { d with nx:=w d } ρ):Aeh u w d ρ:=q
theorem Adq (q:d.nx ρ):AfF d ρ:=q
theorem AfW (q:ua ρ d.rt):Ae3 ua d ρ:=q
theorem Ab9 {i:Nat} (h:ρ[i]? = some (.ow x)) (q:d.rt x):Agi i d ρ:=⟨x,h,q⟩
theorem Aiz (q:ta ρ fun b=>if b = true then u d ρ else w d ρ):Ahi ta u w d ρ:=q
theorem Af2 {i:Nat} (q:ua ρ fun p=>d.nx (ρ.set i (.sh p))):Ah8 i ua d ρ:=q
theorem Acf {i:Nat} (q:ua ρ fun p=>d.nx (ρ.set i (.ow p))):Af0 i ua d ρ:=q
theorem Afg {ug:PV->Bm->(Bm->Prop)->Prop} (q:ua ρ fun p=>ug p ρ d.nx):Ah1 ua ug d ρ:=q
theorem Aav {i:Nat} (q:R (ρ.set i (.sh x))):Adw i x ρ R:=q
theorem Adf {n:Nat} {ps:List PV} {us:List PV->Bm->(Bm->Prop)->Prop} (hl:ps.length = n) (q:us ps ρ R):Xd n us (.tup ps) ρ R:=⟨ps,rfl,hl,q⟩
theorem Aaz {r:List PV} {ug:PV->Bm->(Bm->Prop)->Prop} {us:List PV->Bm->(Bm->Prop)->Prop} (q:ug x ρ fun ρ'=>us r ρ' R):Aa3 ug us (x :: r) ρ R:=⟨x,r,rfl,q⟩
theorem Ab3 (q:R ρ):AdG [] ρ R:=⟨rfl,q⟩
theorem Aao {us:List PV->Bm->(Bm->Prop)->Prop} {s:Sg} (q:us [.int s.1,.str s.2.1,.int s.2.2] ρ R):Xd 3 us (sgP s) ρ R:=⟨_,rfl,rfl,q⟩
theorem Afr {us:List PV->Bm->(Bm->Prop)->Prop} {s:Jn} (q:us [.int s.1,.int s.2.1,.int s.2.2] ρ R):Xd 3 us (jnP s) ρ R:=⟨_,rfl,rfl,q⟩
theorem Ae8 {i:Nat} {s:Sl} (h1:ρ[i]? = some s) (h2:s.val = some x) (q:P x):AiS i ρ P:=⟨s,x,h1,h2,q⟩
theorem AdM {i:Nat} (h1:ρ[i]? = some (.sh x)) (q:P x):Agf i ρ P:=⟨x,h1,q⟩
theorem p_c (q:P x):uC x ρ P:=q
theorem Ahf {g:Int->Int->PV} (q:ua ρ fun p=>ub ρ fun q=>bI0 g p q P):uI0 g ua ub ρ P:=q
theorem Ah5 {g:Int->Int->PV} {i j:Int} (q:P (g i j)):bI0 g (.int i) (.int j) P:=⟨i,j,rfl,rfl,q⟩
theorem p_i {c:Int->Int->Prop} {g:Int->Int->PV} (q:ua ρ fun p=>ub ρ fun q=>bI c g p q P):uI c g ua ub ρ P:=q
theorem Af8 {g:Int->Int->PV} {i j:Int} (q:P (g i j)) (hc:0 < j):bI (fun _ j=>0 < j) g (.int i) (.int j) P:=⟨i,j,rfl,rfl,hc,q⟩
theorem Ae5 {g:Int->Int->PV} {i j:Int} (q:P (g i j)) (hc:Abg i j):bI Abg g (.int i) (.int j) P:=⟨i,j,rfl,rfl,hc,q⟩
theorem Agg {g:Int->Int->PV} {i j:Int} (q:P (g i j)) (hc:AbD i j):bI AbD g (.int i) (.int j) P:=⟨i,j,rfl,rfl,hc,q⟩
theorem p_u {g:Int->PV} (q:ua ρ fun p=>bU g p P):uU g ua ρ P:=q
theorem b_u {g:Int->PV} {i:Int} (q:P (g i)):bU g (.int i) P:=⟨i,rfl,q⟩
theorem AfH {neg:Bool} (q:ua ρ fun p=>ub ρ fun q=>Vs neg p q P):AeE neg ua ub ρ P:=q
theorem Afi {i j:Int} (q:P (.bl (decide (i = j)))):Vs false (.int i) (.int j) P:=.inl ⟨i,j,rfl,rfl,q⟩
theorem Afq {i j:Int} (q:P (.bl (!decide (i = j)))):Vs true (.int i) (.int j) P:=.inl ⟨i,j,rfl,rfl,q⟩
theorem AfD {i j:Str} (q:P (.bl (decide (i = j)))):Vs false (.str i) (.str j) P:=.inr ⟨i,j,rfl,rfl,q⟩
theorem AfE {i j:Str} (q:P (.bl (!decide (i = j)))):Vs true (.str i) (.str j) P:=.inr ⟨i,j,rfl,rfl,q⟩
theorem Af6 (q:ua ρ fun p=>P (.bl (isN p))):Ahe false ua ρ P:=q
theorem p_b (q:ua ρ fun p=>bB p B):uB ua ρ B:=q
theorem b_b {b:Bool} (q:B b):bB (.bl b) B:=⟨b,rfl,q⟩
theorem AfB (q:ta ρ fun b=>if b = true then tb ρ B else B false):AhE ta tb ρ B:=q
theorem Aix (q:ta ρ fun b=>if b = true then B true else tb ρ B):uOr ta tb ρ B:=q
theorem Afh (q:ta ρ fun b=>B (!b)):AiA ta ρ B:=q
theorem Ac9 (q:ua ρ fun p=>bB p fun b=>if b = true then ub ρ P else P (.bl false)):Afu ua ub ρ P:=q
theorem Aco (q:ua ρ fun p=>bB p fun b=>P (.bl (!b))):AfV ua ρ P:=q
theorem Agc (q:ta ρ fun b=>if b = true then ua ρ P else ub ρ P):uIf ta ua ub ρ P:=q
theorem Afj {L:List PV->Prop} (q:L []):AiJ ρ L:=q
theorem AcS {L:List PV->Prop} {ur:UA} (q:ua ρ fun p=>ur ρ fun ps=>L (p :: ps)):Abn ua ur ρ L:=q
theorem Afx {ur:UA} (q:ur ρ fun ps=>P (.lst ps)):Ai6 ur ρ P:=q
theorem Ae6 {ur:UA} (q:ur ρ fun ps=>P (.tup ps)):Ahd ur ρ P:=q
theorem AfX (q:ua ρ fun p=>ub ρ fun q=>Ua p q P):AhQ ua ub ρ P:=q
theorem Af3 {ps:List PV} {i:Int} (h:atI ps i = some x) (q:P x):Ua (.lst ps) (.int i) P:=⟨i,ps,x,rfl,.inl rfl,h,q⟩
theorem Afd (q:ua ρ fun p=>ub ρ fun q=>Nr p q P):Ah4 ua ub ρ P:=q
theorem AcG {s:Sg} (q:P (.int s.1)):Nr (sgP s) (.int 0) P:=⟨0,_,_,rfl,rfl,rfl,q⟩
theorem Ac0 {s:Sg} (q:P (.str s.2.1)):Nr (sgP s) (.int 1) P:=⟨1,_,_,rfl,rfl,rfl,q⟩
theorem Ade {s:Int × Int} (q:P (.int s.1)):Nr (prP s) (.int 0) P:=⟨0,_,_,rfl,rfl,rfl,q⟩
theorem Acr {s:Int × Int} (q:P (.int s.2)):Nr (prP s) (.int 1) P:=⟨1,_,_,rfl,rfl,rfl,q⟩
theorem AbZ {s:Jn} (q:P (.int s.1)):Nr (jnP s) (.int 0) P:=⟨0,_,_,rfl,rfl,rfl,q⟩
theorem Ab7 {s:Jn} (q:P (.int s.2.1)):Nr (jnP s) (.int 1) P:=⟨1,_,_,rfl,rfl,rfl,q⟩
theorem AdI {a:PV} {r:List PV} (q:P a):Nr (.tup (a :: r)) (.int 0) P:=⟨0,_,_,rfl,rfl,Db (j:=0) rfl,q⟩
theorem Acz {a b:PV} {r:List PV} (q:P b):Nr (.tup (a :: b :: r)) (.int 1) P:=⟨1,_,_,rfl,rfl,Db (j:=1) rfl,q⟩
theorem AcC {a b c:PV} {r:List PV} (q:P c):Nr (.tup (a :: b :: c :: r)) (.int 2) P:=⟨2,_,_,rfl,rfl,Db (j:=2) rfl,q⟩
theorem Zz {O:Option Int->Prop} (q:O none):Aas ρ O:=q
theorem AdN {O:Option Int->Prop} (q:ua ρ fun p=>Abc p O):AfR ua ρ O:=q
theorem AcI {O:Option Int->Prop} {i:Int} (q:O (some i)):Abc (.int i) O:=⟨i,rfl,q⟩
theorem AfK {ul uh:UO} (q:ua ρ fun p=>ul ρ fun lo=>uh ρ fun hi=>AbA p lo hi P):Ai4 ua ul uh ρ P:=q
theorem AfO {ps:List PV} {lo hi:Option Int} (q:P (.lst (Fy ps lo hi))):AbA (.lst ps) lo hi P:=⟨ps,.inl rfl,q⟩
theorem Afk {ns:List Int} {lo hi:Option Int} (q:P (.lst ((Fy ns lo hi).map .int))):AbA (.scr ns) lo hi P:=⟨_,.inr ⟨ns,rfl,rfl⟩,by rw [Fc]; exact q⟩
theorem AfY (q:ua ρ fun p=>ub ρ fun q=>Aec p q P):AhC ua ub ρ P:=q
theorem Aga {xs ys:List PV} (q:P (.lst (xs ++ ys))) (hl:xs.length + ys.length <= 100000):Aec (.lst xs) (.lst ys) P:=⟨xs,ys,rfl,rfl,hl,q⟩
theorem AhN {ur:List PV->(PV->Prop)->Prop} {us:UA} (q:us ρ fun ps=>ur ps P):uCB ur us ρ P:=q
theorem Acg {xs:List PV} (q:P (.int (xs.length:Nat))):AfP [.lst xs] P:=⟨_,.inr (.inl ⟨xs,rfl,rfl⟩),q⟩
theorem AaC {xs:List PV} (q:P (.lst xs)):Ye [.lst xs] P:=⟨xs,.inl rfl,q⟩
theorem AaF {xs:List PV} (q:P (.lst xs)):Ye [.tup xs] P:=⟨xs,.inr (.inl rfl),q⟩
theorem Afc {i:Nat} {us:UA} {ps:List PV} (h:ρ[i]? = some (.ow (.lst ps))) (q:us ρ fun qs=>AeJ i ρ d.nx qs):Afn i us d ρ:=⟨⟨ps,h⟩,q⟩
theorem Afo {i:Nat} {N:Bm->Prop} {ps:List PV} (h:ρ[i]? = some (.ow (.lst ps))) (q:N (ρ.set i (.ow (.lst (ps ++ [x]))))) (hl:ps.length < 100000):AeJ i ρ N [x]:=⟨x,ps,rfl,h,hl,q⟩
theorem Afz {neg:Bool} (q:ua ρ fun p=>ub ρ fun q=>Aea neg p q P):Aid neg ua ub ρ P:=q
theorem Ae7 {kvs:List (Key × PV)} {n:Int} (q:P (.bl (Cu kvs (.inl n)).isSome)):Aea false (.int n) (.dk kvs) P:=⟨kvs,.inl n,rfl,rfl,q⟩
theorem AcP (q:ua ρ fun p=>ub ρ fun q=>Abo p q P):Agh ua ub ρ P:=q
theorem Uo {kvs:List (Key × PV)} {n:Int} (h:Cu kvs (.inl n) = some x) (q:P x):Abo (.dk kvs) (.int n) P:=⟨kvs,.inl n,x,rfl,rfl,h,q⟩
theorem AaT {i:Nat} {s:Sl} {kvs:List (Key × PV)} (h1:ρ[i]? = some s) (h2:s.val = some (.dk kvs)) (q:ub ρ fun q=>uc ρ fun z=>Zw kvs q z P):AcE i ub uc ρ P:=⟨s,kvs,h1,h2,q⟩
theorem Aak {kvs:List (Key × PV)} {n:Int} (q:P ((Cu kvs (.inl n)).getD x)):Zw kvs (.int n) x P:=⟨.inl n,rfl,q⟩
theorem Ab4 {i:Nat} {kvs:List (Key × PV)} (h:ρ[i]? = some (.ow (.dk kvs))) (q:ub ρ fun p=>ua ρ fun q=>Abe i ρ d.nx p q):Af7 i ua ub d ρ:=⟨⟨kvs,h⟩,q⟩
theorem Act {i:Nat} {kvs:List (Key × PV)} {n:Int} {N:Bm->Prop} (h:ρ[i]? = some (.ow (.dk kvs))) (q:N (ρ.set i (.ow (.dk (Jc kvs (.inl n) x))))) (hl:kvs.length < 100000):Abe i ρ N x (.int n):=⟨kvs,.inl n,h,rfl,hl,q⟩
theorem AfS {ui:UI} {ug:PV->Bm->(Bm->Prop)->Prop} (q:ui ρ fun ps=>Xl ps ug u d ρ):AeV ui ug u d ρ:=q
theorem Afb {L:List PV->Prop} (q:ua ρ fun p=>bL p L):uiL ua ρ L:=q
theorem b_L {L:List PV->Prop} {ps:List PV} (q:L ps):bL (.lst ps) L:=⟨ps,.inl rfl,q⟩
theorem Ab8 {L:List PV->Prop} {i:Nat} (h:ρ[i]? = some (.bo x)) (q:bL x L):uiB i ρ L:=let ⟨ps,e,q⟩:=q; ⟨_,x,ps,h,.inl rfl,e,q⟩
theorem AdK {ug:PV->Bm->(Bm->Prop)->Prop} {k:Nat} {fr:List Nat} (q:ua ρ fun p=>bL p fun ps=>ps.length <= 100000/\Zu ps ug ta ue (compρ k fr ρ) P):Af1 ua ug ta ue k fr ρ P:=q
theorem Ads (q:B true):AfL ρ B:=q
theorem AcF {psp:PSp} {us:UA} (q:us ρ fun ps=>psp ps P):Ug psp us ρ P:=q
theorem Afw {neg:Bool} (q:ua ρ fun p=>ub ρ fun q=>Zt neg p q P):Ajc neg ua ub ρ P:=q
theorem Yh {a:PV} {r:List PV} (q:P a):Ua (.lst (a :: r)) (.int 0) P:=⟨0,_,_,rfl,.inl rfl,Db (j:=0) rfl,q⟩
theorem Ql {α:Type} {f:α->PV} {l:List α} {j:Nat} {a:α} {i:Int} (h:l[j]? = some a) (e:i = (j:Int)) (q:P (f a)):Ua (.lst (l.map f)) (.int i) P:=by
 subst e
 exact ⟨_,_,_,rfl,.inl rfl,Db (by rw [List.getElem?_map,h]; rfl),q⟩
theorem Jm {α:Type} {f:α->PV} {c:α->Bool}:∀ l:List α,(l.filterMap fun a=>if c a = true then some (f a) else none) = (l.filter c).map f
 | []=>rfl
 | a :: l=>by
  rw [List.filterMap_cons,List.filter_cons]
  by_cases h:c a = true
  ·rw [if_pos h,if_pos h,Jm l]; rfl
  ·rw [if_neg h,if_neg h,Jm l]
theorem Aho {us:UA} (q:us ρ fun ps=>bMk P ps):uMk us ρ P:=q
theorem Ah0 {f:List Sg->List (Int × Int)->List Jn->Int->PV} (q:ua ρ fun p=>bBk p fun S M J=>ub ρ fun q=>bU (fun n=>f S M J n) q P):uM1 f ua ub ρ P:=q
theorem Ait {f:List Jn->Int->Int->PV} (q:ua ρ fun p=>bBk p fun S M J=>ub ρ fun q=>uc ρ fun r=>bI0 (f J) q r P):uM2 f ua ub uc ρ P:=q
theorem Ahv {S:List Sg} {M:List (Int × Int)} {J:List Jn} {L:List Sg->List (Int × Int)->List Jn->Prop} (q:L S M J):bBk (.bk S M J) L:=⟨S,M,J,rfl,q⟩
theorem Yp {xs:List PV} (c:CmpL xs xs) (q:P (.bl true)):Zt false (.lst xs) (.lst xs) P:=⟨xs,xs,rfl,rfl,c,fun b hb=>by rw [hb.mpr rfl]; exact q⟩
theorem Yd {xs:List PV} (c:CmpL xs xs) (q:P (.bl false)):Zt true (.lst xs) (.lst xs) P:=⟨xs,xs,rfl,rfl,c,fun b hb=>by rw [hb.mpr rfl]; exact q⟩
theorem Nj {xs ys:List Int}:CmpL (xs.map .int) (ys.map .int):=fun _ i x y hx hy=>by
 rw [List.getElem?_map] at hx hy
 obtain ⟨a,_,rfl⟩:=Option.map_eq_some_iff.mp hx
 obtain ⟨b,_,rfl⟩:=Option.map_eq_some_iff.mp hy
 exact .flat rfl rfl
theorem Sz {α:Type} {S:List α} {enc:α->PV} {f:α->Option PV} {ug:PV->Bm->(Bm->Prop)->Prop} {ue:UE} {ρ':Bm} (q:P (.lst (S.filterMap f))) (h:∀ s ∈ S,∀ Z:Option PV->Prop,Z (f s)->ug (enc s) ρ' fun ρ2=>ta ρ2 fun b=>if b = true then ue ρ2 fun q=>Z (some q) else Z none):Zu (S.map enc) ug ta ue ρ' P:=by
 refine ⟨fun n rs=>rs = (S.take n).filterMap f,rfl,fun n p rs hp hr=>?_,fun rs hr=>?_⟩
 ·rw [List.getElem?_map] at hp
  obtain ⟨s,hs,rfl⟩:=Option.map_eq_some_iff.mp hp
  subst hr
  refine h s (List.mem_of_getElem? hs) (fun o=>(match o with | some q=>(S.take n).filterMap f ++ [q] | none=>(S.take n).filterMap f) = (S.take (n + 1)).filterMap f) ?_
  rw [Dj hs,List.filterMap_append]
  cases e:f s with
  | none=>simp [List.filterMap_cons,e]
  | some x=>simp [List.filterMap_cons,e]
 ·rw [List.length_map,List.take_length] at hr
  rw [hr]; exact q
end
section
variable {K:PySem.W.Frag} {C:Addr} {ω:Om} {rm:Rm}
def Wx (ps:List PV) (P:PV->Prop):Prop:=∃ (kvs:List (Key × PV)) (ks:List Int),ps = [.dk kvs]/\kvs.map (·.1) = ks.map Sum.inl/\kvs.length < 64/\∀ ns':List Int,ns'.Perm ks->ns'.Pairwise (· <= ·)->P (.lst (ns'.map .int))
theorem Um {m:Bool} {t:TA} {u:UA} (ha:AU K C ω [m] t u):EF K C ω (tCB (fun xs H Q=>∃ (d:Addr) (kvs:List (Key × V)) (ks:List Int),xs = [.ref d]/\H d = some (.dK kvs)/\kvs.map (·.1) = ks.map Sum.inl/\kvs.length < 64/\∀ (l:Addr) (H':Hp) (ns':List Int),H l = none->Same H H'->H' l = some (.lst (ns'.map V.int))->ns'.Perm ks->ns'.Pairwise (· <= ·)->Q (.ref l) H') t) (uCB Wx u) :=
 fun B G0 H0 own G σ H ρ P Q S hu k=>ha B G0 H0 own G σ H ρ _ _ S hu fun vs ps G1 H1 w1 r1 h1=>by
  obtain ⟨v,p,rfl,rfl,r⟩:=Nv r1
  obtain ⟨kvs,ks,e,hk,hl,h2⟩:=h1
  cases e
  obtain ⟨a,vs,rfl,ea,l⟩:=r.dk w1.i
  have hkeys:vs.map (·.1) = kvs.map (·.1):=by
   refine Ld (by rw [List.length_map,List.length_map,l.1]) fun i x y hx hy=>?_
   rw [List.getElem?_map] at hx hy
   obtain ⟨a1,h1,rfl⟩:=Option.map_eq_some_iff.mp hx
   obtain ⟨a2,h2,rfl⟩:=Option.map_eq_some_iff.mp hy
   exact (l.2 i a1 a2 h1 h2).1
  exact ⟨a,vs,ks,rfl,ea,hkeys.trans hk,by rw [l.1]; exact hl,fun b H4 ns' hb s4 e4 hp hs=>k b _ G1 H4 (w1.trans (Grow.own w1.i s4)) (w1.h.free hb) (w1.i.free hb) (OwnA.ofL e4 (Ft ns')) (h2 ns' hp hs)⟩
theorem Wn {P:PV->Prop} {kvs:List (Key × PV)} (ks:List Int) (hk:kvs.map (·.1) = ks.map Sum.inl) (hl:kvs.length < 64) (q:∀ ns':List Int,ns'.Perm ks->ns'.Pairwise (· <= ·)->P (.lst (ns'.map .int))):Wx [.dk kvs] P:=⟨kvs,ks,rfl,hk,hl,q⟩
end
def AaY:PSp:=fun ps P=>∃ ns,ps = [.scr ns]/\ns.length <= 63/\P (.bl true)
def Vb (K:PySem.W.Frag):Sp:=fun vs H Q _=>∃ (a:Addr) (ns:List Int),vs = [.ref a]/\SqL K H a (ns.map V.int)/\ns.length <= 63/\∀ H',Q (.bl true) H'
theorem AgJ {K:PySem.W.Frag} {C:Addr}:∀ vs H Q E,Vb K vs H Q E->spOf K C [false] .sh AaY vs H Q E:=fun vs H Q E ⟨a,ns,e,hS,hl,q⟩=>by
 subst e
 refine ⟨H,[.scr ns],fun p=>p = .bl true,Same.refl _,⟨.inl (.scr hS),trivial⟩,⟨ns,rfl,hl,rfl⟩,fun G' H' v p w r hp=>?_⟩
 subst hp
 have r':Rep K C G' v (.bl true):=r
 cases r'
 exact q H'
section
variable {K:PySem.W.Frag} {C:Addr}
abbrev Gx:=List PV->(PV->Prop)->(Addr->Prop)->Prop
def omX (E:XK) (X:Addr->Prop):Om:=⟨E,X,fun x=>x⟩
def spX (K:PySem.W.Frag) (C:Addr) (ms:List Bool) (rm:Rm) (psp:Gx):Sp:=fun vs H Q E=>∃ G ps P X,Same G H/\ArgsOk K C G H ms vs ps/\psp ps P X/\(∀ G' H' v p,Grow G H G' H'->ROk K C rm H G' H' v p->P p->Q v H')/\∀ c H',Same H H'->X c->E (.ref c) none H'
theorem spX.len {ms:List Bool} {rm:Rm} {psp:Gx} {vs:List V} {H:Hp} {Q:VK} {E:XK} (h:spX K C ms rm psp vs H Q E):vs.length = ms.length:=by
 obtain ⟨G,ps,P,X,i,ok,_⟩:=h
 exact ok.len.1
def Xr (X:Addr->Prop) (psp:Gx) (u:UA):UE:=fun ρ P=>u ρ fun ps=>psp ps P X
theorem Qi {E:XK} {X:Addr->Prop} {ms:List Bool} {psp:Gx} {t:TA} {u:UA} (ha:AU K C (omX E X) ms t u):EF K C (omX E X) (Ob (spX K C ms .fr psp) [] E t) (Xr X psp u) :=
 fun B G0 H0 own G σ H ρ P Q S hu k=>ha B G0 H0 own G σ H ρ _ _ S hu fun vs ps G1 H1 w1 ok h=>by
  rw [List.append_nil]
  exact ⟨G1,ps,P,X,w1.i,ok,h,fun G' H' v p w ⟨a,e,n,g,r⟩ hp=>by subst e; exact k a p G' H' (w1.trans w) (w1.h.free n) g r hp,fun c H' s hx=>S.ex c H' ((S.gr.h.trans w1.h).trans s) hx⟩
def AbY (X:Addr->Prop) (c:Addr) (u:UA):US:=fun _ ρ=>u ρ fun _=>X c
theorem Np {E:XK} {X:Addr->Prop} {rm:Rm} {ms:List Bool} {c:Addr} {t:TA} {u:UA} (ha:AU K C (omX E X) ms t u) (hl:ms.length <= 1000:=by decide):SU K C (omX E X) rm (AdO c E t) (AbY X c u) :=
 fun B G0 H0 own G σ H ρ D d S F hu=>ha B G0 H0 own G σ H ρ _ _ S hu fun vs ps G1 H1 w1 ok h=>⟨by
  rw [ok.len.1]
  have:(1000:Nat) <= PySem.sizeLine:=by unfold PySem.sizeLine; omega
  omega,S.ex c H1 (S.gr.h.trans w1.h) h⟩
def asU (i:Nat) (d:Fq):Fq where
 nx:=fun ρ=>d.nx (ρ.set i .un)
 rt:=d.rt
 bk:=fun ρ=>d.bk (ρ.set i .un)
 ct:=fun ρ=>d.ct (ρ.set i .un)
theorem Sat.unset {ω:Om} {B G0 H0 G H:Hp} {own:Nat->Option Addr} {σ:St} {ρ:Bm} (S:Sat K C ω B G0 H0 own G σ H ρ) (i:Nat):Sat K C ω B G0 H0 (Qb own i) G (σ.set i none) H (ρ.set i .un):=by
 refine ⟨S.kb,S.gr,by rw [List.length_set,List.length_set,S.len],fun j k a h1 h2=>S.inj j k a (Gm h1).2 (Gm h2).2,fun j a h=>S.fr j a (Gm h).2,fun j s h=>?_,S.ex⟩
 rcases Sw h with ⟨rfl,rfl,hl⟩ | ⟨z,h⟩
 ·trivial
 ·exact (S.sl j s h).other (Wa z) (by unfold Qb; rw [if_neg z])
theorem Fits.as {ω:Om} {rm:Rm} {B G0 H0:Hp} {D:Ends} {d:Fq} (F:Fits K C ω rm B G0 H0 D d) (i:Nat):Fits K C ω rm B G0 H0 (Ze i D) (asU i d) :=
 ⟨fun own G σ H ρ S q=>F.nx _ _ _ _ _ (S.unset i) q,F.rt,fun own G σ H ρ S q=>F.bk _ _ _ _ _ (S.unset i) q,fun own G σ H ρ S q=>F.ct _ _ _ _ _ (S.unset i) q⟩
theorem Sat.caught {ω:Om} {B G0 H0 G H H1:Hp} {own:Nat->Option Addr} {σ:St} {ρ:Bm} (S:Sat K C ω B G0 H0 own G σ H ρ) (s:Same H H1) {i:Nat} {x c:Addr} (n:H1 x = none) :
  Sat K C ω B G0 H0 (Qb own i) (upd G x (.ext (excF x c))) (σ.set i (some (.ref x))) (upd H1 x (.ext (excF x c))) (ρ.set i (.sh (.exc c))):=by
 have w1:Grow G H G H1:=Grow.own S.gr.i s
 have w2:Grow G H1 (upd G x (.ext (excF x c))) (upd H1 x (.ext (excF x c))):=Grow.put w1.i n (Same.new n) Bk
 exact ((S.grow w1).grow w2).setS (.exc Bk)
abbrev UX:=Fq->(Addr->Prop)->Bm->Prop
def SX (K:PySem.W.Frag) (C:Addr) (ω:Om) (rm:Rm) (t:TSx) (u:UX):Prop:=∀ (B G0 H0:Hp) (own:Nat->Option Addr) (G:Hp) (σ:St) (H:Hp) (ρ:Bm) (D:Ends) (d:Fq) (Ex:Addr->Hp->Prop) (X:Addr->Prop),Sat K C ω B G0 H0 own G σ H ρ->Fits K C ω rm B G0 H0 D d ->
 (∀ c H',Same H H'->X c->Ex c H')->u d X ρ->t D Ex σ H
def Ac7 (psp:Gx) (u:UA):UX:=fun d X ρ=>u ρ fun ps=>psp ps (fun _=>d.nx ρ) X
theorem Agk {ω:Om} {rm rm':Rm} {ms:List Bool} {psp:Gx} {t:TA} {u:UA} (ha:AU K C ω ms t u):SX K C ω rm (Adv (AcA (spX K C ms rm' psp) [] t)) (Ac7 psp u) :=
 fun B G0 H0 own G σ H ρ D d Ex X Z F hx hu=>ha B G0 H0 own G σ H ρ _ _ Z hu fun vs ps G1 H1 w1 ok h=>by
  rw [List.append_nil]
  exact ⟨G1,ps,_,X,w1.i,ok,h,fun G' H' v p w r hp=>F.nx _ _ _ _ _ ((Z.grow w1).grow w) hp,fun c H' s q=>⟨c,rfl,hx c H' (w1.h.trans s) q⟩⟩
def Ai8 (ub:UX) (S:Addr->Prop) (i:Nat) (us:US):US:=fun d ρ=>ub d (fun c=>S c/\us (asU i d) (ρ.set i (.sh (.exc c)))) ρ
theorem AiO {ω:Om} {rm:Rm} {tb:TSx} {ub:UX} {S:Addr->Prop} {i:Nat} {ts:TS} {us:US} (hb:SX K C ω rm tb ub) (hs:SU K C ω rm ts us):SU K C ω rm (AhS tb S i ts) (Ai8 ub S i us) :=
 fun B G0 H0 own G σ H ρ D d Z F hu=>hb B G0 H0 own G σ H ρ D d _ _ Z F (fun c H' s hx=>⟨hx.1,fun x n=>hs B G0 H0 _ _ _ _ _ _ _ (Z.caught s n) (F.as i) hx.2⟩) hu
def isX (K:PySem.W.Frag) (c:Addr) (b:Bool):PV->Prop
 | .cls D=>Ra K c/\PySem.W.kitOne K (.ref c) (.ref D) = some b
 | .ty n=>Ra K c/\PySem.W.kitOne K (.ref c) (.type n) = some b
 | _=>False
def Aeb (K:PySem.W.Frag) (p q:PV) (P:PV->Prop):Prop:=∃ c b,p = .exc c/\isX K c b q/\P (.bl b)
def Afe (K:PySem.W.Frag) (ps:List PV) (P:PV->Prop):Prop:=∃ p q,ps = [p,q]/\Aeb K p q P
theorem AeA {G H:Hp} {v:V} {c:Addr} (i:Same G H) (r:RepB K C G H v (.exc c)):∃ x,v = .ref x/\H x = some (.ext (excF x c)):=by
 rcases r with r | ⟨a,_,r⟩
 ·cases r with
  | exc e=>exact ⟨_,rfl,i _ _ e⟩
 ·exact r.elim
theorem On {ω:Om} {m n:Bool} {t:TA} {u:UA} (ha:AU K C ω [m,n] t u):EU K C ω (tCB (fun vs H Q=>∃ x C v b,vs = [.ref x,v]/\H x = some (.ext (excF x C))/\Ra K C/\(∀ u,RelV v u->PySem.W.kitOne K (.ref C) u = some b)/\Q (.bl b) H) t) (uCB (Afe K) u) :=
 Xe (fun G H vs ps P Q i ok ⟨p,q,e,c,b,e1,hx,h⟩ k=>by
  subst e e1
  obtain ⟨v,w,p,q',rfl,eq,r1,r2⟩:=Uq ok
  cases eq
  obtain ⟨x,rfl,hH⟩:=AeA i r1
  cases q with
  | cls D =>
   rcases r2 with r2 | ⟨a,_,r2⟩
   ·cases r2 with
    | cls=>exact ⟨x,c,_,b,rfl,hH,hx.1,fun u ru=>by cases (show u = Value.ref D from ru); exact hx.2,k _ _ (.bl b) h⟩
   ·exact r2.elim
  | ty n =>
   rcases r2 with r2 | ⟨a,_,r2⟩
   ·cases r2 with
    | ty=>exact ⟨x,c,_,b,rfl,hH,hx.1,fun u ru=>by cases (show u = Value.type n from ru); exact hx.2,k _ _ (.bl b) h⟩
   ·exact r2.elim
  | _=>exact hx.elim) ha
theorem Lc {ms:List Bool} {rm:Rm} {psp:Gx} {N:List Str} {vs:List V} {H:Hp} {Q:VK} {E:XK} {t:TS} {u:(Addr->Prop)->US} (h:spX K C ms rm psp vs H Q E) (hn:ms.length <= N.length) (hs:∀ X,SU K C (omX E X) rm t (u X))
  (hp:∀ ps P X,psp ps P X->u X ⟨Gk rm P,P,fun _=>False,fun _=>False⟩ (Dv N.length ms ps)):t { nx:=fun _ H'=>Q .non H',rt:=Q } (L2.Nx N vs) H:=by
 obtain ⟨G,ps,P,X,i,ok,hq,k,kx⟩:=h
 obtain ⟨l1,l2⟩:=ok.len
 have hz:(List.zipWith (fun m p=>if m = true then Sl.sh p else Sl.bo p) ms ps).length = ps.length:=by rw [List.length_zipWith,l2]; omega
 refine hs X G G H (fun _=>none) G _ H _ _ ⟨Gk rm P,P,fun _=>False,fun _=>False⟩ ⟨Same.refl _,Grow.refl i,?_,fun i j a z=>(by cases z),fun i a z=>(by cases z),fun j s hj=>?_,fun c H' s z=>kx c H' s z⟩ ⟨fun own' G' σ' H' ρ' S' q=>?_,fun G' H' v p w r hp=>k G' H' v p w r hp,fun _ _ _ _ _ _ q=>q.elim,fun _ _ _ _ _ _ q=>q.elim⟩ (hp ps P X hq)
 ·unfold L2.Nx Dv
  rw [List.length_append,List.length_append,List.length_map,hz,List.length_replicate,List.length_replicate,l1,l2]
 ·unfold Dv at hj
  by_cases z:j < ps.length
  ·rw [List.getElem?_append_left (by rw [hz]; exact z)] at hj
   have q:=ArgsOk.slots (own:=fun _=>none) (σ:=L2.Nx N vs) 0 ok (fun j v hv=>by
    unfold L2.Nx
    rw [Nat.zero_add,List.getElem?_append_left (by rw [List.length_map]; exact (List.getElem?_eq_some_iff.mp hv).1),List.getElem?_map,hv]; rfl) hj
   rwa [Nat.zero_add] at q
  ·rw [List.getElem?_append_right (by rw [hz]; omega),List.getElem?_replicate] at hj
   split at hj
   ·cases hj; trivial
   ·cases hj
 ·cases rm with
  | sh=>exact k G' H' .non .non S'.gr .non q
  | fr=>exact q.elim
theorem AaE {X:Addr->Prop} {psp:Gx} {us:UA} {ρ:Bm} {P:PV->Prop} (q:us ρ fun ps=>psp ps P X):Xr X psp us ρ P:=q
theorem AaG {X:Addr->Prop} {c:Addr} {us:UA} {ρ:Bm} {d:Fq} (q:us ρ fun _=>X c):AbY X c us d ρ:=q
theorem Aam {X:Addr->Prop} {psp:Gx} {ua:UA} {ρ:Bm} {d:Fq} (q:ua ρ fun ps=>psp ps (fun _=>d.nx ρ) X):Ac7 psp ua d X ρ:=q
theorem Afv {ub:UX} {S:Addr->Prop} {i:Nat} {us:US} {ρ:Bm} {d:Fq} (q:ub d (fun c=>S c/\us (asU i d) (ρ.set i (.sh (.exc c)))) ρ):Ai8 ub S i us d ρ:=q
theorem AfJ {i:Nat} {ρ:Bm} {d:Fq} (q:d.nx (ρ.set i .un)):(asU i d).nx ρ:=q
theorem Aft {p q:PV} {P:PV->Prop} (h:Aeb K p q P):Afe K [p,q] P:=⟨p,q,rfl,h⟩
theorem Sx {q:PV} {c:Addr} {b:Bool} {P:PV->Prop} (h:isX K c b q) (z:P (.bl b)):Aeb K (.exc c) q P:=⟨c,b,rfl,h,z⟩
end
section
variable {K:PySem.W.Frag} {C:Addr} {ω:Om}
end
section
variable {K:PySem.W.Frag} {C:Addr} {ω:Om} {rm:Rm}
end
section
variable {K:PySem.W.Frag} {C:Addr} {ω:Om} {rm:Rm}
theorem Yg {G H:Hp} {v w:V} {kvs:List (List Key × PV)} {k:List Key} (i:Same G H) (r1:RepB K C G H w (.dt kvs)) (r2:RepB K C G H v (.tup (k.map kP))):∃ a o,w = .ref a/\DGet H a v o/\((o = none/\Cu kvs k = none)\/∃ x p,o = some x/\Cu kvs k = some p/\Rep K C G x p):=by
 obtain ⟨a,vs,rfl,ea,l⟩:=r1.dt i
 obtain ⟨b,rfl,eb⟩:=Zh i r2
 refine ⟨a,Cd vs k,rfl,DGet.t ea eb,?_⟩
 rcases Zy k l with ⟨h1,h2⟩ | ⟨x,p,h1,h2,h3⟩
 ·exact .inl ⟨h1,h2⟩
 ·exact .inr ⟨x,p,h1,h2,h3⟩
def Abz (q p:PV) (P:PV->Prop):Prop:=∃ kvs k,p = .dt kvs/\q = .tup (List.map kP k)/\P (.bl (Cu kvs k).isSome)
def Af9 (ua ub:UE):UE:=fun ρ P=>ua ρ fun q=>ub ρ fun p=>Abz q p P
theorem AgI {ta tb:TE} {ua ub:UE} (ha:EB K C ω ta ua) (hb:EB K C ω tb ub):EU K C ω (Abi ta tb) (Af9 ua ub):=fun B G0 H0 own G σ H ρ P Q S hu k =>
 ha B G0 H0 own G σ H ρ _ _ S hu fun v q G1 H1 w1 r1 h1=>hb B G0 H0 own G1 σ H1 ρ _ _ (S.grow w1) h1 fun w p G2 H2 w2 r2 ⟨kvs,key,e1,e2,h⟩=>by
  subst e1 e2
  obtain ⟨a,o,rfl,hg,ho⟩:=Yg w2.i r2 (r1.grow w2)
  refine ⟨a,o,rfl,hg,?_⟩
  have:o.isSome = (Cu kvs key).isSome:=by
   rcases ho with ⟨h1,h2⟩ | ⟨x,p,h1,h2,h3⟩
   ·rw [h1,h2]; rfl
   ·rw [h1,h2]; rfl
  rw [this]
  exact k _ _ G2 H2 (w1.trans w2) (.bl _) h
def Xx (p q:PV) (P:PV->Prop):Prop:=∃ kvs k x,p = .dt kvs/\q = .tup (List.map kP k)/\Cu kvs k = some x/\P x
def Acb (ua ub:UE):UE:=fun ρ P=>ua ρ fun p=>ub ρ fun q=>Xx p q P
theorem AeX {ta tb:TE} {ua ub:UE} (ha:EB K C ω ta ua) (hb:EB K C ω tb ub):EU K C ω (Xf ta tb) (Acb ua ub):=fun B G0 H0 own G σ H ρ P Q S hu k =>
 ha B G0 H0 own G σ H ρ _ _ S hu fun v q G1 H1 w1 r1 h1=>hb B G0 H0 own G1 σ H1 ρ _ _ (S.grow w1) h1 fun w p G2 H2 w2 r2 ⟨kvs,key,x,e1,e2,e3,h⟩=>by
  subst e1 e2
  obtain ⟨a,o,rfl,hg,ho⟩:=Yg w2.i (r1.grow w2) r2
  rcases ho with ⟨h1,h2⟩ | ⟨y,p,h1,h2,h3⟩
  ·rw [e3] at h2; cases h2
  ·rw [e3] at h2; cases h2
   subst h1
   exact ⟨a,y,rfl,hg,k _ _ G2 H2 (w1.trans w2) h3 h⟩
def Xq (i:Nat) (ρ:Bm) (N:Bm->Prop) (p q:PV):Prop:=∃ kvs k,ρ[i]? = some (.ow (.dt kvs))/\q = .tup (List.map kP k)/\kvs.length < 100000/\N (ρ.set i (.ow (.dt (Jc kvs k p))))
def Ach (i:Nat) (ub uv:UE):US:=fun d ρ=>(∃ kvs,ρ[i]? = some (.ow (.dt kvs)))/\uv ρ fun p=>ub ρ fun q=>Xq i ρ d.nx p q
theorem Aen {i:Nat} {tb tv:TE} {ub uv:UE} (hb:EB K C ω tb ub) (hv:EU K C ω tv uv):SU K C ω rm (Xn (Gy i) tb tv) (Ach i ub uv):=fun B G0 H0 own G σ H ρ D d S F ⟨⟨kvs0,e0⟩,hu⟩ =>
 hv B G0 H0 own G σ H ρ _ _ S hu fun v p G1 H1 w1 r1 h1=>by
  have S1:=S.grow w1
  obtain ⟨a,ea,o,_⟩:=S.sl i _ e0
  refine ⟨_,ea,hb B G0 H0 own G1 σ H1 ρ _ _ S1 h1 fun w q G2 H2 w2 r2 ⟨kvs,k,e,e2,hl,h⟩=>?_⟩
  subst e2
  have S2:=S1.grow w2
  obtain ⟨a',ea',o',vs,ha,l⟩:=S2.sl i _ e
  rw [o] at o'; cases o'
  obtain ⟨b,rfl,eb⟩:=Zh w2.i r2
  exact ⟨a,_,rfl,.inr ⟨vs,k,b,ha,rfl,eb,Xs (by rw [l.1]; omega),rfl⟩,F.nx own G2 σ _ _ (S2.chg o ea Chg.put (OwnA.ofDt Bk (AcK l (r1.mono w2.g)))) h⟩
theorem Ahr {ρ:Bm} {ua ub:UE} {P:PV->Prop} (q:ua ρ fun q=>ub ρ fun p=>Abz q p P):Af9 ua ub ρ P:=q
theorem Aic {kvs:List (List Key × PV)} {a b:Int} {P:PV->Prop} (q:P (.bl (Cu kvs [Sum.inl a,Sum.inl b]).isSome)):Abz (.tup [.int a,.int b]) (.dt kvs) P:=⟨kvs,[Sum.inl a,Sum.inl b],rfl,rfl,q⟩
theorem Ag4 {ρ:Bm} {ua ub:UE} {P:PV->Prop} (q:ua ρ fun p=>ub ρ fun q=>Xx p q P):Acb ua ub ρ P:=q
theorem AgQ {kvs:List (List Key × PV)} {a b:Int} {x:PV} {P:PV->Prop} (h:Cu kvs [Sum.inl a,Sum.inl b] = some x) (q:P x):Xx (.dt kvs) (.tup [.int a,.int b]) P:=⟨kvs,[Sum.inl a,Sum.inl b],x,rfl,rfl,h,q⟩
theorem AgE {ρ:Bm} {d:Fq} {i:Nat} {ua ub:UE} {kvs:List (List Key × PV)} (h:ρ[i]? = some (.ow (.dt kvs))) (q:ub ρ fun p=>ua ρ fun q=>Xq i ρ d.nx p q):Ach i ua ub d ρ:=⟨⟨kvs,h⟩,q⟩
theorem AgL {ρ:Bm} {i:Nat} {kvs:List (List Key × PV)} {a b:Int} {x:PV} {N:Bm->Prop} (h:ρ[i]? = some (.ow (.dt kvs))) (q:N (ρ.set i (.ow (.dt (Jc kvs [Sum.inl a,Sum.inl b] x))))) (hl:kvs.length < 100000):Xq i ρ N x (.tup [.int a,.int b]):=⟨kvs,[Sum.inl a,Sum.inl b],h,rfl,hl,q⟩
theorem AeW {κ:Type} [DecidableEq κ] (kvs:List (κ × PV)) (k k':κ) (v:PV):Cu (Jc kvs k v) k' = if k = k' then some v else Cu kvs k':=by
 have fnd:∀ l:List (κ × PV),Cu (l.map fun kv=>if kv.1 = k then (kv.1,v) else kv) k' = if k = k' then (if l.any (fun kv=>decide (kv.1 = k)) = true then some v else none) else Cu l k':=by
  intro l
  induction l with
  | nil=>unfold Cu; simp
  | cons x l ih =>
   have h1:∀ (y:κ × PV) (r:List (κ × PV)),Cu (y :: r) k' = if y.1 = k' then some y.2 else Cu r k':=fun y r=>by
    unfold Cu
    rw [List.find?_cons]
    by_cases z:y.1 = k'
    ·simp [z]
    ·simp [z]
   rw [List.map_cons,h1,ih,h1]
   by_cases e:k = k'
   ·subst e
    by_cases z:x.1 = k
    ·simp [z]
    ·rw [if_neg z,if_neg z,if_pos rfl,if_pos rfl,List.any_cons,decide_eq_false z,Bool.false_or]
   ·by_cases z:x.1 = k
    ·have:¬ x.1 = k':=fun w=>e (z.symm.trans w)
     simp [z,e]
    ·simp [z,e]
 unfold Jc
 by_cases z:(kvs.any fun kv=>decide (kv.1 = k)) = true
 ·rw [if_pos z,fnd,if_pos z]
 ·rw [if_neg z]
  unfold Cu
  rw [List.find?_append]
  by_cases e:k = k'
  ·subst e
   have:(kvs.find? fun kv=>decide (kv.1 = k)) = none:=by
    rw [List.find?_eq_none]
    intro x hx w
    exact z (List.any_eq_true.mpr ⟨x,hx,w⟩)
   rw [this]; simp
  ·rw [if_neg e]
   cases (kvs.find? fun kv=>decide (kv.1 = k')) with
   | none=>simp [e]
   | some y=>simp
end
section
variable {K:PySem.W.Frag} {C:Addr} {ω:Om} {rm:Rm}
end
section
variable {K:PySem.W.Frag} {C:Addr} {ω:Om} {rm:Rm}
def enP (ps:List PV):List PV:=ps.mapIdx fun i p=>.tup [.int (i:Int),p]
theorem Aau {ps:List PV} {k:Nat}:(enP ps)[k]? = ps[k]?.map fun p=>.tup [.int (k:Int),p]:=by unfold enP; rw [List.getElem?_mapIdx]
theorem Aa1 (ps:List PV):(enP ps).length = ps.length:=by unfold enP; rw [List.length_mapIdx]
def Ae4 (ua:UE) (ug:PV->Bm->(Bm->Prop)->Prop) (ub:US):US:=fun d ρ=>ua ρ fun p=>bL p fun ps=>Xl (enP ps) ug ub d ρ
theorem AgR {top:Nat} {ta:TE} {ua:UE} {g:TG} {ug:PV->Bm->(Bm->Prop)->Prop} {tb:TS} {ub:US} (ha:EU K C ω ta ua) (hg:GU K C ω top g ug) (hb:SU K C ω rm tb ub):SU K C ω rm (Rr (AfZ K ta) g tb) (Ae4 ua ug ub) :=
 fun B G0 H0 own G σ H ρ D d S F hu=>ha B G0 H0 own G σ H ρ _ _ S hu fun v p G1 H1 w1 r1 ⟨ps,e,I,i0,ist,iend⟩=>by
  have S1:=S.grow w1
  obtain ⟨a,vs,rfl,sq,rp⟩:∃ a vs,v = .ref a/\SqL K G1 a vs/\Reps K C G1 vs ps:=by
   rcases e with e | ⟨ns,e,e2⟩
   ·subst e
    cases r1 with
    | lst e l q=>exact ⟨_,_,rfl,SqL.of e,l,q⟩
   ·subst e e2
    cases r1 with
    | scr e=>exact ⟨_,_,rfl,e,Ft ns⟩
  refine ⟨a,rfl,⟨vs,w1.i.seq sq⟩,AdW (xs:=vs) (fun k σ' H'=>∃ own' G' ρ',Sat K C ω G1 G0 H0 own' G' σ' H' ρ'/\I k ρ') ⟨own,G1,ρ,S1.base (Same.refl _),i0⟩ (fun k σ' H' _ ⟨own',G',ρ',S',_⟩=>(S'.kb.trans S'.gr.i).seq sq) (fun k x t σ' H' hx ht ⟨own',G',ρ',S',hi⟩=>?_) fun σ' H' ⟨own',G',ρ',S',hi⟩=>?_⟩
  ·obtain ⟨q,hq,rq⟩:=rp.get hx
   have w2:Grow G' H' (upd G' t (.tup [.int (k:Int),x])) (upd H' t (.tup [.int (k:Int),x])):=Grow.put S'.gr.i ht (Same.new ht) Bk
   have S2:=S'.grow w2
   have rt:Rep K C (upd G' t (.tup [.int (k:Int),x])) (.ref t) (.tup [.int (k:Int),q]):=Rep.ofT Bk (LAt.snoc (LAt.snoc LAt.nil (.int _)) ((rq.mono S'.kb).mono w2.g))
   exact hg G1 G0 H0 own' _ σ' _ ρ' (.ref t) _ _ _ S2 rt (ist k _ ρ' (by rw [Aau,hq]; rfl) hi) fun own2 σ2 ρ2 S3 _ h2=>hb G1 G0 H0 own2 _ σ2 _ ρ2 _ _ S3 (Sj F S1.kb fun own3 G3 σ3 H3 ρ3 S4 h3=>⟨own3,G3,ρ3,S4,h3⟩) h2
  ·rw [rp.1,<- Aa1] at hi
   exact F.nx own' G' σ' H' ρ' (S'.base (S1.kb.trans S'.kb)) (iend ρ' hi)
theorem Aia {ρ:Bm} {d:Fq} {ua:UE} {ug:PV->Bm->(Bm->Prop)->Prop} {ub:US} (q:ua ρ fun p=>bL p fun ps=>Xl (enP ps) ug ub d ρ):Ae4 ua ug ub d ρ:=q
end
section
variable {K:PySem.W.Frag} {C:Addr} {ω:Om}
end
theorem Vt {u w:US} {d:Fq} {ρ:Bm} (N:Bm->Prop) (h1:∀ ρ',N ρ'->w d ρ') (h2:u { d with nx:=fun ρ'=>N ρ'\/w d ρ' } ρ):Aeh u w d ρ:=by
 have e:(fun ρ'=>N ρ'\/w d ρ') = w d:=funext fun ρ'=>propext ⟨fun z=>z.elim (h1 ρ') id,.inr⟩
 rw [e] at h2
 exact h2
section
variable {K:PySem.W.Frag} {C:Addr} {ω:Om} {rm:Rm}
def Sm (i:Int) (n:Nat):List PV:=(List.range n).map fun (k:Nat)=>.int (i + (k:Int))
theorem AdQ {G:Hp} {i:Int} {n:Nat}:Reps K C G ((List.range n).map fun (k:Nat)=>V.int (i + (k:Int))) (Sm i n):=by
 unfold Sm
 refine ⟨by simp,fun j v p h1 h2=>?_⟩
 rw [List.getElem?_map] at h1 h2
 cases e:(List.range n)[j]? with
 | none=>rw [e] at h1; cases h1
 | some m=>rw [e] at h1 h2; cases h1; cases h2; exact .int _
def Afa (ps:List PV) (P:PV->Prop):Prop:=∃ i j:Int,ps = [.int i,.int j]/\(-(2 ^ 62) <= i/\i < 2 ^ 62/\-(2 ^ 62) <= j/\j < 2 ^ 62)/\j - i < 16000000/\P (.lst (Sm i (j - i).toNat))
theorem Aj8 {i j:Int} {P:PV->Prop} (q:P (.lst (Sm i (j - i).toNat))) (h:-(2 ^ 62) <= i/\i < 2 ^ 62/\-(2 ^ 62) <= j/\j < 2 ^ 62) (h2:j - i < 16000000):Afa [.int i,.int j] P:=⟨i,j,rfl,h,h2,q⟩
theorem AiL {m n:Bool} {t:TA} {u:UA} (ha:AU K C ω [m,n] t u):EF K C ω (AhU t) (uCB Afa u) :=
 fun B G0 H0 own G σ H ρ P Q S hu k=>ha B G0 H0 own G σ H ρ _ _ S hu fun vs ps G1 H1 w1 ok ⟨i,j,e,h1,h2,h⟩=>by
  obtain ⟨v,w,p,q,rfl,e2,r1,r2⟩:=Uq ok
  rw [e] at e2; cases e2
  exact ⟨i,j,by rw [r1.int,r2.int],h1,h2,fun b H2 hb s2 e2=>k b _ G1 H2 (w1.trans (Grow.own w1.i s2)) (w1.h.free hb) (w1.i.free hb) (OwnA.ofL e2 AdQ) h⟩
theorem Ad1 {G:Hp} {vs:List V} {bs:List Bool} (h:Reps K C G vs (bs.map .bl)):vs = bs.map V.bl:=by
 refine Ld (by rw [h.1,List.length_map,List.length_map]) fun i x y hx hy=>?_
 rw [List.getElem?_map] at hy
 obtain ⟨b,hb,rfl⟩:=Option.map_eq_some_iff.mp hy
 have r:=h.2 i x (.bl b) hx (by rw [List.getElem?_map,hb]; rfl)
 cases r; rfl
theorem AiB {a b:PV} {r:List PV} {P:PV->Prop} (q:P b):Ua (.lst (a :: b :: r)) (.int 1) P:=⟨1,_,_,rfl,.inl rfl,Db (j:=1) rfl,q⟩
end
section
variable {K:PySem.W.Frag} {C:Addr} {ω:Om} {rm:Rm}
def AaN (ps:List PV) (P:PV->Prop):Prop:=∃ kvs,ps = [.dk kvs]/\P (.int (kvs.length:Nat))
theorem AgV {kvs:List (Key × PV)} {P:PV->Prop} (q:P (.int (kvs.length:Nat))):AaN [.dk kvs] P:=⟨kvs,rfl,q⟩
theorem Yq {m:Bool} {t:TA} {u:UA} (ha:AU K C ω [m] t u):EU K C ω (tCB (fun xs H Q=>∃ a kvs,xs = [V.ref a]/\H a = some (.dK kvs)/\Q (.int kvs.length) H) t) (uCB AaN u) :=
 Xe (fun G H vs ps P Q s ok ⟨kvs,e,h⟩ k=>by
  obtain ⟨v,p,rfl,e2,r⟩:=Nv ok
  rw [e] at e2; cases e2
  obtain ⟨a,ws,rfl,ea,l⟩:=r.dk s
  exact ⟨a,ws,rfl,ea,by rw [l.1]; exact k _ _ (.int _) h⟩) ha
def AfQ (ps:List PV) (P:PV->Prop):Prop:=∃ bs:List Bool,ps = [.lst (bs.map .bl)]/\P (.bl (bs.any id))
theorem Ae9 {bs:List Bool} {P:PV->Prop} (q:P (.bl (bs.any id))):AfQ [.lst (bs.map .bl)] P:=⟨bs,rfl,q⟩
theorem Ahj {m:Bool} {t:TA} {u:UA} (ha:AU K C ω [m] t u):EU K C ω (tCB (fun xs H Q=>∃ (p:Addr) (bs:List Bool),xs = [.ref p]/\SqL K H p (bs.map V.bl)/\Q (.bl (bs.any id)) H) t) (uCB AfQ u) :=
 Xe (fun G H vs ps P Q s ok ⟨bs,e,h⟩ k=>by
  obtain ⟨v,p,rfl,e2,r⟩:=Nv ok
  rw [e] at e2; cases e2
  obtain ⟨a,vs,rfl,ea,l⟩:=r.lst s
  exact ⟨a,bs,rfl,SqL.of (by rw [<- Ad1 l]; exact ea),k _ _ (.bl _) h⟩) ha
def Ae2 (p q:PV) (P:PV->Prop):Prop:=∃ xs,q = .lst xs/\(∀ x ∈ xs,∃ ys,x = .tup ys)/\(∀ x ∈ xs,Cmp 40 x p)/\∀ b:Bool,(b = true ↔ p ∈ xs)->P (.bl (!b))
def Ai2 (ua ub:UE):UE:=fun ρ P=>ua ρ fun p=>ub ρ fun q=>Ae2 p q P
theorem Akq {ρ:Bm} {P:PV->Prop} {ua ub:UE} (q:ua ρ fun p=>ub ρ fun q=>Ae2 p q P):Ai2 ua ub ρ P:=q
theorem Ac6 {ta tb:TE} {ua ub:UE} (ha:EU K C ω ta ua) (hb:EB K C ω tb ub):EU K C ω (tOp (AhG K true) ta tb) (Ai2 ua ub) :=
 fun B G0 H0 own G σ H ρ P Q S hu k=>ha B G0 H0 own G σ H ρ _ _ S hu fun v p G1 H1 w1 r1 h1=>hb B G0 H0 own G1 σ H1 ρ _ _ (S.grow w1) h1 fun w q G2 H2 w2 r2 ⟨xs,e,ht,hc,h⟩=>by
  subst e
  obtain ⟨a,vs,rfl,ea,l⟩:=r2.lst w2.i
  have r1':=r1.mono w2.g
  have hr:∀ u ∈ vs,∃ r x,u = V.ref r/\x ∈ xs/\Rep K C G2 (.ref r) x:=fun u hu=>by
   obtain ⟨i,hi⟩:=List.getElem?_of_mem hu
   obtain ⟨x,hx,rx⟩:=LAt.get l hi
   obtain ⟨ys,rfl⟩:=ht x (List.mem_of_getElem? hx)
   cases rx with
   | tup e l' q'=>exact ⟨_,_,rfl,List.mem_of_getElem? hx,.tup e l' q'⟩
  refine ⟨a,vs,fun r=>pd (Rep K C G2 (.ref r) p),rfl,SqL.of ea,fun u hu=>let ⟨r,_,e,_⟩:=hr u hu; ⟨r,e⟩,fun r hm=>?_,?_⟩
  ·obtain ⟨r',x,e,hx,rx⟩:=hr _ hm
   cases e
   refine (hc x hx).eqD w2.i rx r1' ?_
   rw [pd_iff]
   exact ⟨fun z=>(hc x hx).fn rx z,fun z=>by rw [<- z]; exact rx⟩
  ·have key:vs.any (Yw fun r=>pd (Rep K C G2 (.ref r) p)) = pd (p ∈ xs):=Nf (by
    rw [pd_iff,List.any_eq_true]
    constructor
    ·rintro ⟨u,hu,hb⟩
     obtain ⟨r,x,rfl,hx,rx⟩:=hr u hu
     have:Rep K C G2 (.ref r) p:=pd_iff.mp hb
     rw [<- (hc x hx).fn rx this]; exact hx
    ·intro hp
     obtain ⟨i,hi⟩:=List.getElem?_of_mem hp
     obtain ⟨u,hu,ru⟩:=LAt.get' l hi
     obtain ⟨ys,rfl⟩:=ht p hp
     refine ⟨u,List.mem_of_getElem? hu,?_⟩
     cases ru with
     | tup e l' q'=>exact pd_iff.mpr (.tup e l' q'))
   show Q (.bl (!(vs.any (Yw fun r=>pd (Rep K C G2 (.ref r) p))))) H2
   rw [key]
   exact k _ _ G2 H2 (w1.trans w2) (.bl _) (h _ pd_iff)
theorem Tz {E:XK} {ms:List Bool} {psp:Gx} {t:TA} {u:UA} (ha:AU K C ω ms t u):EF K C ω (Ob (spX K C ms .fr psp) [] E t) (Xr (fun _=>False) psp u) :=
 fun B G0 H0 own G σ H ρ P Q S hu k=>ha B G0 H0 own G σ H ρ _ _ S hu fun vs ps G1 H1 w1 ok h=>by
  rw [List.append_nil]
  exact ⟨G1,ps,P,fun _=>False,w1.i,ok,h,fun G' H' v p w ⟨a,e,n,g,r⟩ hp=>by subst e; exact k a p G' H' (w1.trans w) (w1.h.free n) g r hp,fun c H' s hx=>hx.elim⟩
end
def cel (ns:List Int) (k:Int):Int:=ns.getD k.toNat 0
def sg (ns:List Int) (i:Nat):Int:=cel ns 0 % 10 ^ 29 + (1 + cel ns 1 % 10 ^ 6) * ((i:Int) * (1 + cel ns 1 / 10 ^ 6 % 28) % 29)
structure Tt (S:Nat->Int):Prop where
 nn:∀ i,0 <= S i
 inj:∀ i j,i < 29->j < 29->S i = S j->i = j
theorem AjS:∀ m:_root_.Fin 28,∀ d:_root_.Fin 28,¬ ((d.val + 1) * (m.val + 1) % 29 = 0):=by decide +kernel
theorem AjI (ns:List Int):Tt (sg ns):=by
 have hs:(0:Int) < 1 + cel ns 1 % 10 ^ 6:=by
  have:(0:Int) <= cel ns 1 % 10 ^ 6:=Int.emod_nonneg _ (by decide)
  omega
 refine ⟨fun i=>?_,fun i j hi hj h=>?_⟩
 ·unfold sg
  have h1:(0:Int) <= cel ns 0 % 10 ^ 29:=Int.emod_nonneg _ (by decide)
  have h3:(0:Int) <= (i:Int) * (1 + cel ns 1 / 10 ^ 6 % 28) % 29:=Int.emod_nonneg _ (by decide)
  have h4:=Int.mul_nonneg (Int.le_of_lt hs) h3
  omega
 ·unfold sg at h
  have h2:(i:Int) * (1 + cel ns 1 / 10 ^ 6 % 28) % 29 = (j:Int) * (1 + cel ns 1 / 10 ^ 6 % 28) % 29:=by
   have e:(1 + cel ns 1 % 10 ^ 6) * ((i:Int) * (1 + cel ns 1 / 10 ^ 6 % 28) % 29) = (1 + cel ns 1 % 10 ^ 6) * ((j:Int) * (1 + cel ns 1 / 10 ^ 6 % 28) % 29):=by omega
   exact Int.eq_of_mul_eq_mul_left (Int.ne_of_gt hs) e
  obtain ⟨m,em,hm⟩:∃ m:Nat,1 + cel ns 1 / 10 ^ 6 % 28 = ((m + 1:Nat):Int)/\m < 28:=⟨(cel ns 1 / 10 ^ 6 % 28).toNat,by omega,by omega⟩
  rw [em] at h2
  have core:∀ a b:Nat,a < 29->b < 29->a < b->(a:Int) * ((m + 1:Nat):Int) % 29 = (b:Int) * ((m + 1:Nat):Int) % 29->False:=by
   intro a b ha hb hab e
   obtain ⟨d,ed⟩:∃ d:Nat,b = a + (d + 1):=⟨b - a - 1,by omega⟩
   have z:=AjS ⟨m,hm⟩ ⟨d,by omega⟩
   apply z
   have e2:(b:Int) * ((m + 1:Nat):Int) = (a:Int) * ((m + 1:Nat):Int) + ((d + 1:Nat):Int) * ((m + 1:Nat):Int):=by rw [ed,Int.natCast_add,Int.add_mul]
   rw [e2] at e
   have e3:((d + 1:Nat):Int) * ((m + 1:Nat):Int) % 29 = 0:=by omega
   have e4:(((d + 1) * (m + 1):Nat):Int) % 29 = 0:=by rw [Int.natCast_mul]; exact e3
   show (d + 1) * (m + 1) % 29 = 0
   omega
  rcases Nat.lt_trichotomy i j with q | q | q
  ·exact (core i j hi hj q h2).elim
  ·exact q
  ·exact (core j i hj hi q h2.symm).elim
def sgL (S:Nat->Int) (n:Nat):List V:=(List.range n).map fun i=>V.int (S i)
theorem Gh {S:Nat->Int} {n i:Nat} (h:i < n):(sgL S n)[i]? = some (.int (S i)):=by
 unfold sgL
 rw [List.getElem?_map,List.getElem?_range h]; rfl
theorem AeO (S:Nat->Int) (n:Nat):sgL S (n + 1) = sgL S n ++ [.int (S n)]:=by simp [sgL,List.range_succ]
structure MkR (S:Nat->Int) (R:List Sg):Prop where
 ln:R.length <= 5
 at':∀ (i:Nat) (s:Sg),R[i]? = some s->s.1 = S i/\s.2.1 = "mark"/\1 <= s.2.2
theorem MkR.nil {S:Nat->Int}:MkR S []:=⟨by decide,fun i s h=>by simp at h⟩
theorem AaP {α:Type} {R:List α} {x s:α} {i:Nat} (h:(R ++ [x])[i]? = some s):R[i]? = some s\/(i = R.length/\s = x):=by
 by_cases hi:i < R.length
 ·rw [List.getElem?_append_left hi] at h; exact .inl h
 ·rw [List.getElem?_append_right (by omega)] at h
  have hz:i - R.length = 0:=by
   have:=(List.getElem?_eq_some_iff.mp h).1
   simp at this; omega
  rw [hz] at h
  simp at h
  exact .inr ⟨by omega,h.symm⟩
theorem MkR.snoc {S:Nat->Int} {R:List Sg} (h:MkR S R) (hl:R.length < 5) {r:Int} (hr:1 <= r):MkR S (R ++ [((S R.length,"mark",r):Sg)]) :=
 ⟨by simp; omega,fun i s e=>by
  rcases AaP e with e | ⟨rfl,rfl⟩
  ·exact h.at' i s e
  ·exact ⟨rfl,rfl,hr⟩⟩
structure BsR (S:Nat->Int) (R:List Sg):Prop where
 ln:R.length <= 5
 at':∀ (i:Nat) (s:Sg),R[i]? = some s->s.1 = S (5 + i)/\s.2.1 ∈ joinedK/\s.2.2 = 0
theorem BsR.nil {S:Nat->Int}:BsR S []:=⟨by decide,fun i s h=>by simp at h⟩
theorem BsR.snoc {S:Nat->Int} {R:List Sg} (h:BsR S R) (hl:R.length < 5) {k:Str} (hk:k ∈ joinedK):BsR S (R ++ [(S (5 + R.length),k,0)]) :=
 ⟨by simp; omega,fun i s e=>by
  rcases AaP e with e | ⟨rfl,rfl⟩
  ·exact h.at' i s e
  ·exact ⟨rfl,hk,rfl⟩⟩
def kd5 (r:Int):Str:=joinedK.getD r.toNat "fore"
theorem AiD {r:Int} (h0:0 <= r) (h:r < 5):kd5 r ∈ joinedK:=by
 obtain ⟨n,rfl⟩:=Int.eq_ofNat_of_zero_le h0
 have hn:n < 5:=by omega
 unfold kd5
 rw [Int.toNat_natCast,List.getD_eq_getElem?_getD,List.getElem?_eq_getElem (show n < joinedK.length from hn)]
 exact List.getElem_mem _
theorem AhW {r:Int} (h0:0 <= r) (h:r < 5):atI [V.str "fore",V.str "back",V.str "num",V.str "blank",V.str "plain"] r = some (.str (kd5 r)):=by
 obtain ⟨n,rfl⟩:=Int.eq_ofNat_of_zero_le h0
 have hn:n < 5:=by omega
 refine Db ?_
 show (joinedK.map V.str)[n]? = _
 unfold kd5
 rw [Int.toNat_natCast,List.getElem?_map,List.getD_eq_getElem?_getD,List.getElem?_eq_getElem (show n < joinedK.length from hn)]
 rfl
inductive JB (S:Nat->Int) (R0 Mk:List Sg):Nat->List Sg->List Jn->Prop
 | nil:JB S R0 Mk 0 R0 []
 | skip {k:Nat} {R:List Sg} {J:List Jn} (h:JB S R0 Mk k R J):JB S R0 Mk (k + 1) R J
 | add {k:Nat} {R:List Sg} {J:List Jn} {s m:Sg} (h:JB S R0 Mk k R J) (hs:s ∈ R) (hm:m ∈ Mk) (hn:¬ (s.1,m.1) ∈ J.map (·.2)):JB S R0 Mk (k + 1) (R ++ [(S (10 + k),s.2.1,0)]) (J ++ [(S (10 + k),s.1,m.1)])
section
variable {S:Nat->Int} {R0 Mk R:List Sg} {J:List Jn} {k:Nat}
theorem JB.len (h:JB S R0 Mk k R J):J.length <= k/\R.length = R0.length + J.length:=by
 induction h with
 | nil=>exact ⟨Nat.le_refl _,rfl⟩
 | skip h ih=>exact ⟨by omega,ih.2⟩
 | add h hs hm hn ih=>refine ⟨by simp; omega,by simp; omega⟩
theorem JB.row (h:JB S R0 Mk k R J) (hB:BsR S R0):∀ s ∈ R,(∃ i,5 <= i/\i < 10 + k/\s.1 = S i)/\s.2.1 ∈ joinedK/\s.2.2 = 0:=by
 induction h with
 | nil =>
  intro s hs
  obtain ⟨i,hi⟩:=List.getElem?_of_mem hs
  obtain ⟨a,b,c⟩:=hB.at' i s hi
  have:=(List.getElem?_eq_some_iff.mp hi).1
  have:=hB.ln
  exact ⟨⟨5 + i,by omega,by omega,a⟩,b,c⟩
 | skip h ih =>
  intro s hs
  obtain ⟨⟨i,a,b,c⟩,d⟩:=ih s hs
  exact ⟨⟨i,a,by omega,c⟩,d⟩
 | add h hs hm hn ih =>
  rename_i k R J s m
  intro u hu
  rcases List.mem_append.mp hu with hu | hu
  ·obtain ⟨⟨i,a,b,c⟩,d⟩:=ih u hu
   exact ⟨⟨i,a,by omega,c⟩,d⟩
  ·rw [List.mem_singleton.mp hu]
   exact ⟨⟨10 + k,by omega,by omega,rfl⟩,(ih s hs).2.1,rfl⟩
theorem JB.whole (h:JB S R0 Mk k R J):∀ j ∈ J,∃ i,i < k/\j.1 = S (10 + i):=by
 induction h with
 | nil=>intro j hj; cases hj
 | skip h ih=>intro j hj; obtain ⟨i,a,b⟩:=ih j hj; exact ⟨i,by omega,b⟩
 | add h hs hm hn ih =>
  rename_i k R J s m
  intro j hj
  rcases List.mem_append.mp hj with hj | hj
  ·obtain ⟨i,a,b⟩:=ih j hj; exact ⟨i,by omega,b⟩
  ·rw [List.mem_singleton.mp hj]; exact ⟨k,by omega,rfl⟩
theorem JB.join (h:JB S R0 Mk k R J):∀ j ∈ J,(∃ s ∈ R,∃ u ∈ R,s.1 = j.1/\u.1 = j.2.1/\s.2.1 = u.2.1)/\∃ m ∈ Mk,m.1 = j.2.2:=by
 induction h with
 | nil=>intro j hj; cases hj
 | skip h ih=>exact ih
 | add h hs hm hn ih =>
  rename_i k R J s m
  intro j hj
  rcases List.mem_append.mp hj with hj | hj
  ·obtain ⟨⟨a,ha,b,hb,e⟩,d⟩:=ih j hj
   exact ⟨⟨a,List.mem_append_left _ ha,b,List.mem_append_left _ hb,e⟩,d⟩
  ·rw [List.mem_singleton.mp hj]
   exact ⟨⟨_,List.mem_append_right _ List.mem_cons_self,s,List.mem_append_left _ hs,rfl,rfl,rfl⟩,m,hm,rfl⟩
theorem JB.nodup (h:JB S R0 Mk k R J) (hk:k <= 7) (hS:Tt S) (hB:BsR S R0):(R.map (·.1)).Nodup/\(J.map (·.1)).Nodup/\(J.map (·.2)).Nodup:=by
 induction h with
 | nil =>
  refine ⟨?_,List.nodup_nil,List.nodup_nil⟩
  refine Ja fun i j x h1 h2=>?_
  rw [List.getElem?_map] at h1 h2
  obtain ⟨s1,e1,z1⟩:=Option.map_eq_some_iff.mp h1
  obtain ⟨s2,e2,z2⟩:=Option.map_eq_some_iff.mp h2
  have l1:=(List.getElem?_eq_some_iff.mp e1).1
  have l2:=(List.getElem?_eq_some_iff.mp e2).1
  have e':S (5 + i) = S (5 + j):=by rw [<- (hB.at' i _ e1).1,<- (hB.at' j _ e2).1,z1,z2]
  have:=hB.ln
  have:=hS.inj _ _ (by omega) (by omega) e'
  omega
 | skip h ih=>exact ih (by omega)
 | add h hs hm hn ih =>
  rename_i k R J s m
  obtain ⟨a,b,c⟩:=ih (by omega)
  refine ⟨?_,?_,?_⟩
  ·rw [List.map_append]
   refine List.nodup_append.mpr ⟨a,by simp,fun x hx y hy e=>?_⟩
   obtain ⟨u,hu,rfl⟩:=List.mem_map.mp hx
   obtain ⟨⟨i,h1,h2,h3⟩,_⟩:=h.row hB u hu
   have e2:y = S (10 + k):=by simpa using hy
   rw [h3,e2] at e
   have:=hS.inj _ _ (by omega) (by omega) e
   omega
  ·rw [List.map_append]
   refine List.nodup_append.mpr ⟨b,by simp,fun x hx y hy e=>?_⟩
   obtain ⟨u,hu,rfl⟩:=List.mem_map.mp hx
   obtain ⟨i,h1,h3⟩:=h.whole u hu
   have e2:y = S (10 + k):=by simpa using hy
   rw [h3,e2] at e
   have:=hS.inj _ _ (by omega) (by omega) e
   omega
  ·rw [List.map_append]
   refine List.nodup_append.mpr ⟨c,by simp,fun x hx y hy e=>?_⟩
   have e2:y = (s.1,m.1):=by simpa using hy
   rw [<- e2,<- e] at hn
   exact hn hx
theorem Wj {J:List Jn} {w:Jn} {n:Int} (h:¬ w.1 = n):Ce (J ++ [w]) n = Ce J n:=by
 induction J with
 | nil=>show (if w.1 = n then some w.2 else none) = none; rw [if_neg h]
 | cons x r ih =>
  show (if x.1 = n then some x.2 else Ce (r ++ [w]) n) = if x.1 = n then some x.2 else Ce r n
  rw [ih]
theorem Yl (J:List Jn) (n:Int):∀ k,jGo J (k + 1) n = jGo J k (Fb J n)
 | 0=>rfl
 | k + 1=>by
  show Fb J (jGo J (k + 1) n) = Fb J (jGo J k (Fb J n))
  rw [Yl J n k]
theorem AaJ {J:List Jn} {w:Jn} (hb:∀ j ∈ J,¬ j.2.1 = w.1):∀ (k:Nat) (n:Int),¬ n = w.1->jGo (J ++ [w]) k n = jGo J k n/\¬ jGo J k n = w.1
 | 0,n,h=>⟨rfl,h⟩
 | k + 1,n,h=>by
  obtain ⟨e,ne⟩:=AaJ hb k n h
  show Fb (J ++ [w]) (jGo (J ++ [w]) k n) = Fb J (jGo J k n)/\¬ Fb J (jGo J k n) = w.1
  rw [e]
  unfold Fb
  rw [Wj fun z=>ne z.symm]
  refine ⟨rfl,?_⟩
  cases z:Ce J (jGo J k n) with
  | none=>exact ne
  | some m=>exact hb _ (Go z)
theorem JB.ends (h:JB S R0 Mk k R J) (hk:k <= 7) (hS:Tt S) (hB:BsR S R0):∀ s ∈ R,Ce J (jGo J k s.1) = none:=by
 induction h with
 | nil=>intro s hs; rfl
 | skip h ih =>
  intro s hs
  have z:=ih (by omega) s hs
  rename_i k R J
  show Ce J (Fb J (jGo J k s.1)) = none
  unfold Fb
  rw [z]; exact z
 | add h hs hm hn ih =>
  rename_i k R J s m
  have ih:=ih (by omega)
  have old:∀ u ∈ R,¬ u.1 = S (10 + k):=fun u hu e=>by
   obtain ⟨⟨i,h1,h2,h3⟩,_⟩:=h.row hB u hu
   rw [h3] at e
   have:=hS.inj _ _ (by omega) (by omega) e
   omega
  have hb:∀ j ∈ J,¬ j.2.1 = ((S (10 + k),s.1,m.1):Jn).1:=fun j hj=>by
   obtain ⟨⟨_,_,u,hu,_,e,_⟩,_⟩:=h.join j hj
   rw [<- e]; exact old u hu
  have one:∀ u ∈ R,Ce (J ++ [(S (10 + k),s.1,m.1)]) (jGo (J ++ [(S (10 + k),s.1,m.1)]) k u.1) = none:=fun u hu=>by
   obtain ⟨e,ne⟩:=AaJ hb k u.1 (old u hu)
   rw [e,Wj fun z=>ne z.symm]
   exact ih u hu
  intro u hu
  rcases List.mem_append.mp hu with hu | hu
  ·show Ce _ (Fb _ (jGo _ k u.1)) = none
   unfold Fb
   rw [one u hu]; exact one u hu
  ·rw [List.mem_singleton.mp hu]
   rw [Yl]
   have hw:¬ S (10 + k) ∈ J.map (·.1):=fun z=>by
    obtain ⟨j,hj,e⟩:=List.mem_map.mp z
    obtain ⟨⟨v,hv,_,_,e2,_,_⟩,_⟩:=h.join j hj
    exact old v hv (e2.trans e)
   have st:Fb (J ++ [(S (10 + k),s.1,m.1)]) (S (10 + k)) = s.1:=by
    unfold Fb
    have:∀ J':List Jn,¬ S (10 + k) ∈ J'.map (·.1)->Ce (J' ++ [(S (10 + k),s.1,m.1)]) (S (10 + k)) = some (s.1,m.1):=by
     intro J'
     induction J' with
     | nil=>intro _; show (if S (10 + k) = S (10 + k) then _ else _) = _; rw [if_pos rfl]
     | cons x r ih2 =>
      intro hx
      show (if x.1 = S (10 + k) then some x.2 else Ce (r ++ _) _) = _
      rw [if_neg fun z=>hx (by rw [<- z]; exact List.mem_cons_self)]
      exact ih2 fun z=>hx (List.mem_cons_of_mem _ z)
    rw [this J hw]
   show Ce _ (jGo _ k (Fb _ (S (10 + k)))) = none
   rw [st]
   exact one s hs
theorem Zn {J:List Jn} {n:Int} {k:Nat} (h:Ce J (jGo J k n) = none):∀ d,jGo J (k + d) n = jGo J k n
 | 0=>rfl
 | d + 1=>by
  show Fb J (jGo J (k + d) n) = _
  rw [Zn h d]
  unfold Fb
  rw [h]
theorem JB.ends7 (h:JB S R0 Mk k R J) (hk:k <= 7) (hS:Tt S) (hB:BsR S R0):∀ j ∈ J,Ce J (jGo J 7 j.1) = none:=by
 intro j hj
 obtain ⟨⟨s,hs,_,_,e,_,_⟩,_⟩:=h.join j hj
 have z:=h.ends hk hS hB s hs
 rw [e] at z
 have e7:jGo J 7 j.1 = jGo J k j.1:=by
  have e:=Zn z (7 - k)
  rw [show k + (7 - k) = 7 by omega] at e
  exact e
 rw [e7]; exact z
end
structure Fl (S:List Sg) (M:List (Int × Int)) (J:List Jn):Prop where
 so:∀ s ∈ S,Xj s
 mo:∀ m ∈ M,0 <= m.1/\0 <= m.2
 nd:(S.map (·.1) ++ ends M).Nodup
 jo:AbH (kK S ++ kM M) J
 ln:S.length + 2 * M.length <= 60
 jl:J.length <= 7
 mr:∃ s ∈ S,s.2.1 = "mark"
def Ad0:List Str:=["mark","fore","back","num","blank","plain","forein","backin","out"]
theorem AiQ:∀ z ∈ joinedK,z ∈ Ad0:=by decide +kernel
theorem AhV:∀ z ∈ Ad0,¬ z = "plain"->z ∈ toldK:=by decide +kernel
def Fa (S:Nat->Int):List Sg:=[(S 17,"forein",0),(S 18,"backin",0),(S 19,"out",0)]
def Fv (S:Nat->Int):List (Int × Int):=[(S 20,S 21),(S 23,S 22)]
section
variable {S:Nat->Int} {R0 Mk R:List Sg} {J:List Jn} {k x y t:Nat}
theorem AhZ (hM:MkR S Mk) (hB:BsR S R0) (h:JB S R0 Mk k R J) (hk:k <= 7):∀ s ∈ Mk ++ R ++ (Fa S).take x,(∃ i,i < 20/\s.1 = S i)/\s.2.1 ∈ Ad0/\Va s.2.1 s.2.2:=by
 intro s hs
 rcases List.mem_append.mp hs with hs | hs
 ·rcases List.mem_append.mp hs with hs | hs
  ·obtain ⟨i,hi⟩:=List.getElem?_of_mem hs
   obtain ⟨a,b,c⟩:=hM.at' i s hi
   have:=(List.getElem?_eq_some_iff.mp hi).1
   have:=hM.ln
   exact ⟨⟨i,by omega,a⟩,by rw [b]; decide +kernel,.inl ⟨b,c⟩⟩
  ·obtain ⟨⟨i,a,b,c⟩,d,e⟩:=h.row hB s hs
   exact ⟨⟨i,by omega,c⟩,AiQ _ d,.inr ⟨fun z=>by rw [z] at d; revert d; decide +kernel,e⟩⟩
 ·have hs:=List.mem_of_mem_take hs
  simp only [Fa,List.mem_cons,List.not_mem_nil,or_false] at hs
  rcases hs with rfl | rfl | rfl
  ·exact ⟨⟨17,by omega,rfl⟩,(show ("forein" : Str) ∈ _ by decide +kernel),.inr ⟨(show ¬ ("forein" : Str) = "mark" by decide +kernel),rfl⟩⟩
  ·exact ⟨⟨18,by omega,rfl⟩,(show ("backin" : Str) ∈ _ by decide +kernel),.inr ⟨(show ¬ ("backin" : Str) = "mark" by decide +kernel),rfl⟩⟩
  ·exact ⟨⟨19,by omega,rfl⟩,(show ("out" : Str) ∈ _ by decide +kernel),.inr ⟨(show ¬ ("out" : Str) = "mark" by decide +kernel),rfl⟩⟩
theorem AiT (hS:Tt S) (hM:MkR S Mk) (hB:BsR S R0) (h:JB S R0 Mk k R J) (hk:k <= 7):((Mk ++ R ++ (Fa S).take x).map (·.1)).Nodup:=by
 rw [List.map_append,List.map_append]
 have a1:∀ n ∈ Mk.map (·.1),∃ i,i < 5/\n = S i:=fun n hn=>by
  obtain ⟨s,hs,rfl⟩:=List.mem_map.mp hn
  obtain ⟨i,hi⟩:=List.getElem?_of_mem hs
  have:=(List.getElem?_eq_some_iff.mp hi).1
  have:=hM.ln
  exact ⟨i,by omega,(hM.at' i s hi).1⟩
 have a2:∀ n ∈ R.map (·.1),∃ i,5 <= i/\i < 17/\n = S i:=fun n hn=>by
  obtain ⟨s,hs,rfl⟩:=List.mem_map.mp hn
  obtain ⟨⟨i,a,b,c⟩,_⟩:=h.row hB s hs
  exact ⟨i,a,by omega,c⟩
 have a3:∀ n ∈ ((Fa S).take x).map (·.1),∃ i,17 <= i/\i < 20/\n = S i:=fun n hn=>by
  obtain ⟨s,hs,rfl⟩:=List.mem_map.mp hn
  have hs:=List.mem_of_mem_take hs
  simp only [Fa,List.mem_cons,List.not_mem_nil,or_false] at hs
  rcases hs with rfl | rfl | rfl
  ·exact ⟨17,by omega,by omega,rfl⟩
  ·exact ⟨18,by omega,by omega,rfl⟩
  ·exact ⟨19,by omega,by omega,rfl⟩
 refine List.nodup_append.mpr ⟨List.nodup_append.mpr ⟨?_,(h.nodup hk hS hB).1,?_⟩,?_,?_⟩
 ·refine Ja fun i j x h1 h2=>?_
  rw [List.getElem?_map] at h1 h2
  obtain ⟨s1,e1,z1⟩:=Option.map_eq_some_iff.mp h1
  obtain ⟨s2,e2,z2⟩:=Option.map_eq_some_iff.mp h2
  have l1:=(List.getElem?_eq_some_iff.mp e1).1
  have l2:=(List.getElem?_eq_some_iff.mp e2).1
  have e':S i = S j:=by rw [<- (hM.at' i _ e1).1,<- (hM.at' j _ e2).1,z1,z2]
  have:=hM.ln
  exact hS.inj _ _ (by omega) (by omega) e'
 ·intro a ha b hb e
  obtain ⟨i,h1,h2⟩:=a1 a ha
  obtain ⟨j,h3,h4,h5⟩:=a2 b hb
  have:=hS.inj i j (by omega) (by omega) (by rw [<- h2,<- h5,e])
  omega
 ·rw [List.map_take]
  refine List.Pairwise.sublist (List.take_sublist _ _) (Ja fun i j x h1 h2=>?_)
  have g:∀ i z,((Fa S).map (·.1))[i]? = some z->i < 3/\z = S (17 + i):=fun i z hz=>by
   match i,hz with
   | 0,hz=>cases hz; exact ⟨by omega,rfl⟩
   | 1,hz=>cases hz; exact ⟨by omega,rfl⟩
   | 2,hz=>cases hz; exact ⟨by omega,rfl⟩
   | _ + 3,hz=>simp [Fa] at hz
  obtain ⟨g1,g2⟩:=g i x h1
  obtain ⟨g3,g4⟩:=g j x h2
  have:=hS.inj (17 + i) (17 + j) (by omega) (by omega) (by rw [<- g2,<- g4])
  omega
 ·intro a ha b hb e
  obtain ⟨j,h3,h4,h5⟩:=a3 b hb
  have:∃ i,i < 17/\a = S i:=by
   rcases List.mem_append.mp ha with ha | ha
   ·obtain ⟨i,h1,h2⟩:=a1 a ha; exact ⟨i,by omega,h2⟩
   ·obtain ⟨i,h1,h2,h3⟩:=a2 a ha; exact ⟨i,by omega,h3⟩
  obtain ⟨i,h1,h2⟩:=this
  have:=hS.inj i j (by omega) (by omega) (by rw [<- h2,<- h5,e])
  omega
def Gq (S:Nat->Int) (Mk R:List Sg) (x:Nat):List Sg:=(Mk ++ R ++ (Fa S).take x).filter fun s=>!decide (s.2.1 = "plain")
def Lr (t:Nat) (T:List Sg):List Sg:=T.drop t ++ T.take t
theorem Ac8 (t:Nat) (T:List Sg):(Lr t T).Perm T:=by
 unfold Lr
 exact List.perm_append_comm.trans (by rw [List.take_append_drop])
theorem Zq:∀ n ∈ ends ((Fv S).take y),∃ i,20 <= i/\i < 24/\n = S i:=by
 intro n hn
 have key:∀ z,y = z->∃ i,20 <= i/\i < 24/\n = S i:=by
  intro z hz
  match z,hz with
  | 0,hz=>subst hz; simp [ends] at hn
  | 1,hz =>
   subst hz
   simp [Fv,ends] at hn
   rcases hn with h | h
   ·exact ⟨20,by omega,by omega,h⟩
   ·exact ⟨21,by omega,by omega,h⟩
  | z + 2,hz =>
   subst hz
   simp [Fv,ends] at hn
   rcases hn with h | h | h | h
   ·exact ⟨20,by omega,by omega,h⟩
   ·exact ⟨21,by omega,by omega,h⟩
   ·exact ⟨23,by omega,by omega,h⟩
   ·exact ⟨22,by omega,by omega,h⟩
 exact key y rfl
theorem AeD (hS:Tt S):(ends ((Fv S).take y)).Nodup:=by
 have ne:∀ i j,i < 29->j < 29->i ≠ j->¬ S i = S j:=fun i j a b c e=>c (hS.inj i j a b e)
 match y with
 | 0=>exact List.nodup_nil
 | 1 =>
  show [S 20,S 21].Nodup
  simp [ne 20 21 (by omega) (by omega) (by omega)]
 | y + 2 =>
  rw [show ends ((Fv S).take (y + 2)) = [S 20,S 21,S 23,S 22] by simp [Fv,ends]]
  simp [ne 20 21 (by omega) (by omega) (by omega),ne 20 22 (by omega) (by omega) (by omega),ne 20 23 (by omega) (by omega) (by omega),ne 21 22 (by omega) (by omega) (by omega),ne 21 23 (by omega) (by omega) (by omega),ne 23 22 (by omega) (by omega) (by omega)]
theorem AeI (hS:Tt S) (hM:MkR S Mk) (hM1:Mk ≠ []) (hB:BsR S R0) (h:JB S R0 Mk k R J) (hk:k <= 7):Fl (Lr t (Gq S Mk R x)) ((Fv S).take y) J:=by
 have pm:=Ac8 t (Gq S Mk R x)
 have mem:∀ s,s ∈ Lr t (Gq S Mk R x) ↔ s ∈ Mk ++ R ++ (Fa S).take x/\¬ s.2.1 = "plain":=fun s=>by
  rw [pm.mem_iff]
  unfold Gq
  rw [List.mem_filter]
  simp
 have ix:=AhZ (x:=x) hM hB h hk
 have rnd:=AiT (x:=x) hS hM hB h hk
 have ndT:((Gq S Mk R x).map (·.1)).Nodup:=List.Pairwise.sublist (List.Sublist.map _ List.filter_sublist) rnd
 have ndU:((Lr t (Gq S Mk R x)).map (·.1)).Nodup:=(pm.map (·.1)).nodup_iff.mpr ndT
 have nd:((Lr t (Gq S Mk R x)).map (·.1) ++ ends ((Fv S).take y)).Nodup:=by
  refine List.nodup_append.mpr ⟨ndU,AeD hS,fun a ha b hb e=>?_⟩
  obtain ⟨s,hs,rfl⟩:=List.mem_map.mp ha
  obtain ⟨⟨i,h1,h2⟩,_⟩:=ix s ((mem s).mp hs).1
  obtain ⟨j,h3,h4,h5⟩:=Zq b hb
  have:=hS.inj i j (by omega) (by omega) (by rw [<- h2,<- h5,e])
  omega
 have kn:∀ s ∈ Mk ++ R ++ (Fa S).take x,knd (kK (Lr t (Gq S Mk R x)) ++ kM ((Fv S).take y)) s.1 = .str s.2.1:=fun s hs=>by
  unfold knd
  by_cases z:s.2.1 = "plain"
  ·rw [z]
   refine Ajb fun w=>?_
   rcases List.mem_append.mp w with w | w
   ·obtain ⟨u,hu,e⟩:=List.mem_map.mp w
    obtain ⟨hu1,hu2⟩:=(mem u).mp hu
    have:u = s:=by
     obtain ⟨i,hi⟩:=List.getElem?_of_mem hu1
     obtain ⟨j,hj⟩:=List.getElem?_of_mem hs
     have li:=(List.getElem?_eq_some_iff.mp hi).1
     have q1:((Mk ++ R ++ (Fa S).take x).map (·.1))[i]? = some s.1:=by rw [List.getElem?_map,hi]; exact congrArg some e
     have q2:((Mk ++ R ++ (Fa S).take x).map (·.1))[j]? = some s.1:=by rw [List.getElem?_map,hj]; rfl
     have:i = j:=by
      rcases Nat.lt_trichotomy i j with c | c | c
      ·exact absurd (List.mem_of_getElem? (by rw [List.getElem?_take,if_pos c]; exact q1)) (Qa rnd q2)
      ·exact c
      ·exact absurd (List.mem_of_getElem? (by rw [List.getElem?_take,if_pos c]; exact q2)) (Qa rnd q1)
     subst this
     rw [hi] at hj; exact Option.some.inj hj
    subst this
    exact hu2 z
   ·obtain ⟨⟨i,h1,h2⟩,_⟩:=ix s hs
    obtain ⟨j,h3,h4,h5⟩:=Zq _ w
    have:=hS.inj i j (by omega) (by omega) (by rw [<- h2,<- h5])
    omega
  ·exact Aar nd ((mem s).mpr ⟨hs,z⟩)
 have inM:∀ {s:Sg},s ∈ Mk->s ∈ Mk ++ R ++ (Fa S).take x:=fun h=>List.mem_append_left _ (List.mem_append_left _ h)
 have inR:∀ {s:Sg},s ∈ R->s ∈ Mk ++ R ++ (Fa S).take x:=fun h=>List.mem_append_left _ (List.mem_append_right _ h)
 have mkk:∀ s ∈ Mk,s.2.1 = "mark":=fun s hs=>by
  obtain ⟨i,hi⟩:=List.getElem?_of_mem hs
  exact (hM.at' i s hi).2.1
 have nn:∀ s ∈ Mk ++ R ++ (Fa S).take x,0 <= s.1:=fun s hs=>by
  obtain ⟨⟨i,_,e⟩,_⟩:=ix s hs
  rw [e]; exact hS.nn i
 obtain ⟨l1,l2⟩:=h.len
 have lM:=hM.ln
 have lB:=hB.ln
 refine ⟨fun s hs=>?_,fun m hm=>?_,nd,⟨fun j hj=>?_,fun j hj=>?_,fun j hj=>?_,(h.nodup hk hS hB).2.1,(h.nodup hk hS hB).2.2,h.ends7 hk hS hB,by omega⟩,?_,by omega,?_⟩
 ·obtain ⟨h1,h2⟩:=(mem s).mp hs
  obtain ⟨_,b,c⟩:=ix s h1
  exact ⟨nn s h1,AhV _ b h2,c⟩
 ·have hm:=List.mem_of_mem_take hm
  simp only [Fv,List.mem_cons,List.not_mem_nil,or_false] at hm
  rcases hm with rfl | rfl <;> exact ⟨hS.nn _,hS.nn _⟩
 ·obtain ⟨⟨s,hs,u,hu,e1,e2,_⟩,m,hm,e3⟩:=h.join j hj
  exact ⟨by rw [<- e1]; exact nn s (inR hs),by rw [<- e2]; exact nn u (inR hu),by rw [<- e3]; exact nn m (inM hm)⟩
 ·obtain ⟨_,m,hm,e3⟩:=h.join j hj
  rw [<- e3,kn m (inM hm),mkk m hm]
 ·obtain ⟨⟨s,hs,u,hu,e1,e2,e3⟩,_⟩:=h.join j hj
  exact ⟨s.2.1,(h.row hB s hs).2.1,by rw [<- e1]; exact kn s (inR hs),by rw [<- e2,e3]; exact kn u (inR hu)⟩
 ·have z1:(Lr t (Gq S Mk R x)).length = (Gq S Mk R x).length:=pm.length_eq
  have z2:(Gq S Mk R x).length <= (Mk ++ R ++ (Fa S).take x).length:=List.length_filter_le _ _
  have z3:((Fa S).take x).length <= 3:=by rw [List.length_take]; simp [Fa]; omega
  have z4:((Fv S).take y).length <= 2:=by rw [List.length_take]; simp [Fv]; omega
  rw [List.length_append,List.length_append] at z2
  omega
 ·obtain ⟨m,hm⟩:∃ m,m ∈ Mk:=List.exists_mem_of_ne_nil _ hM1
  exact ⟨m,(mem m).mpr ⟨inM hm,by rw [mkk m hm]; decide +kernel⟩,mkk m hm⟩
end
theorem Sk {kvs:List (Key × V)} {k:Key} {v:V} (h:Cd kvs k = some v):(k,v) ∈ kvs:=by
 unfold Cd at h
 obtain ⟨p,h1,h2⟩:=Option.map_eq_some_iff.mp h
 have e0:=List.find?_some h1
 have e:p.1 = k:=of_decide_eq_true e0
 have:p = (k,v):=Prod.ext e h2
 rw [<- this]
 exact List.mem_of_find?_eq_some h1
theorem Ab6 {M:List (Int × Int)} {p:Key × V} (h:p ∈ kM M):p.2 = .str "open"\/p.2 = .str "shut":=by
 induction M with
 | nil=>cases h
 | cons x r ih =>
  rcases List.mem_cons.mp h with e | h
  ·rw [e]; exact .inl rfl
  ·rcases List.mem_cons.mp h with e | h
   ·rw [e]; exact .inr rfl
   ·exact ih h
theorem AfA (U:List Sg) (M:List (Int × Int)) (n:Int):(Cd (kK U ++ kM M) (Sum.inl n)).getD (.str "plain") = .str (Of U M n):=by
 unfold Of
 cases e:Cd (kK U ++ kM M) (Sum.inl n) with
 | none=>rfl
 | some v =>
  rcases List.mem_append.mp (Sk e) with h | h
  ·obtain ⟨s,_,z⟩:=List.mem_map.mp h
   have:V.str s.2.1 = v:=(Prod.mk.inj z).2
   rw [<- this]; rfl
  ·rcases Ab6 h with z | z
   ·have z:v = .str "open":=z
    rw [z]; rfl
   ·have z:v = .str "shut":=z
    rw [z]; rfl
theorem Ajz (U:List Sg) (n:Int):(Cd (kR U) (Sum.inl n)).getD (.int 0) = .int (Cn U n):=by
 unfold Cn
 cases e:Cd (kR U) (Sum.inl n) with
 | none=>rfl
 | some v =>
  obtain ⟨s,_,z⟩:=List.mem_map.mp (Sk e)
  have:V.int s.2.2 = v:=(Prod.mk.inj z).2
  rw [<- this]; rfl
theorem AgG {U:List Sg} {M:List (Int × Int)} {n:Int} {k:Str} (h:(Cd (kK U ++ kM M) (Sum.inl n)).getD (.str "plain") = .str k):Of U M n = k:=by
 rw [AfA] at h
 exact V.str.inj h
theorem Ws {U:List Sg} (nd:(U.map (·.1)).Nodup) {s:Sg} (h:s ∈ U):Cn U s.1 = s.2.2:=by
 unfold Cn
 have nd':((kR U).map (·.1)).Nodup:=by rw [AaU]; exact Lf nd
 have hm:((Sum.inl s.1,V.int s.2.2):Key × V) ∈ kR U:=List.mem_map.mpr ⟨s,h,rfl⟩
 rw [Ya nd' hm]
 rfl
theorem Aey {U:List Sg} {n:Int} (h:¬ n ∈ U.map (·.1)):Cn U n = 0:=by
 have:=Ai1 h
 rw [Ajz] at this
 exact V.int.inj this
theorem Vo {U:List Sg} {M:List (Int × Int)} {J:List Jn} (b:Fl U M J) {n:Int} (h:Of U M n = "mark"):1 <= Cn U n:=by
 have e:=AfA U M n
 rw [h] at e
 cases z:Cd (kK U ++ kM M) (Sum.inl n) with
 | none =>
  rw [z] at e
  have e':V.str "plain" = V.str "mark":=e
  exact absurd (V.str.inj e') (by decide +kernel)
 | some v =>
  rw [z] at e
  have e':v = .str "mark":=e
  subst e'
  rcases List.mem_append.mp (Sk z) with w | w
  ·obtain ⟨s,hs,q⟩:=List.mem_map.mp w
   have q1:s.1 = n:=Sum.inl.inj (Prod.mk.inj q).1
   have q2:s.2.1 = "mark":=V.str.inj (Prod.mk.inj q).2
   rw [<- q1,Ws (List.nodup_append.mp b.nd).1 hs]
   rcases (b.so s hs).rk with ⟨_,r⟩ | ⟨r,_⟩
   ·exact r
   ·exact absurd q2 r
  ·rcases Ab6 w with q | q
   ·have q:V.str "mark" = .str "open":=q
    exact absurd (V.str.inj q) (by decide +kernel)
   ·have q:V.str "mark" = .str "shut":=q
    exact absurd (V.str.inj q) (by decide +kernel)
def Vr (U:List Sg) (M:List (Int × Int)) (n:Int):Bool:=decide (Of U M n = "mark")
def rkD (U:List Sg):List (Key × PV):=U.map fun s=>(Sum.inl s.1,.int s.2.2)
def ptD (J:List Jn):List (Key × PV):=J.map fun j=>(Sum.inl j.1,.tup [.int j.2.1,.int j.2.2])
theorem Yv {κ:Type} [DecidableEq κ] {kvs:List (κ × PV)} {k:κ} {v:PV} (h:¬ k ∈ kvs.map (·.1)):Jc kvs k v = kvs ++ [(k,v)]:=by
 unfold Jc
 rw [if_neg]
 intro z
 obtain ⟨kv,h1,h2⟩:=List.any_eq_true.mp z
 exact h (List.mem_map.mpr ⟨kv,h1,of_decide_eq_true h2⟩)
theorem Wq {κ:Type} [DecidableEq κ] (x:κ × PV) (r:List (κ × PV)) (k:κ):Cu (x :: r) k = if x.1 = k then some x.2 else Cu r k:=by
 unfold Cu
 rw [List.find?_cons]
 by_cases z:x.1 = k
 ·rw [if_pos z,decide_eq_true z]; rfl
 ·rw [if_neg z,decide_eq_false z]
theorem Ag3 (U:List Sg) (n:Int):(Cu (rkD U) (.inl n)).getD (.int 0) = .int (Cn U n):=by
 induction U with
 | nil=>rfl
 | cons s r ih =>
  show (Cu ((Sum.inl s.1,PV.int s.2.2) :: rkD r) (Sum.inl n)).getD (.int 0) = _
  rw [Wq]
  have e:Cn (s :: r) n = if s.1 = n then s.2.2 else Cn r n:=by
   unfold Cn
   show Aig ((Cd ((Sum.inl s.1,V.int s.2.2) :: kR r) (Sum.inl n)).getD (.int 0)) = _
   by_cases z:s.1 = n
   ·rw [if_pos z,Jd (by rw [z])]; rfl
   ·rw [if_neg z,Jb (fun w=>z (Sum.inl.inj w))]
  rw [e]
  by_cases z:s.1 = n
  ·rw [if_pos (by rw [z]),if_pos z]; rfl
  ·rw [if_neg (fun w=>z (Sum.inl.inj w)),if_neg z]; exact ih
theorem Sr (J:List Jn) (n:Int):Cu (ptD J) (.inl n) = (Ce J n).map fun m=>.tup [.int m.1,.int m.2]:=by
 induction J with
 | nil=>rfl
 | cons j r ih =>
  show Cu ((Sum.inl j.1,PV.tup [.int j.2.1,.int j.2.2]) :: ptD r) (Sum.inl n) = _
  rw [Wq]
  unfold Ce
  by_cases z:j.1 = n
  ·rw [if_pos (by rw [z]),if_pos z]; rfl
  ·rw [if_neg (fun w=>z (Sum.inl.inj w)),if_neg z]; exact ih
theorem Tn {α:Type} {f:α->Int} {l:List α} {n:Int} {g:α->PV} (h:(Sum.inl n:Key) ∈ (l.map fun s=>((Sum.inl (f s),g s):Key × PV)).map (·.1)):n ∈ l.map f:=by
 rw [List.map_map] at h
 obtain ⟨s,hs,e⟩:=List.mem_map.mp h
 exact List.mem_map.mpr ⟨s,hs,Sum.inl.inj e⟩
theorem AgD {U:List Sg} {k:Nat} {s:Sg} (nd:(U.map (·.1)).Nodup) (hs:U[k]? = some s):Jc (rkD (U.take k)) (.inl s.1) (.int s.2.2) = rkD (U.take (k + 1)):=by
 rw [Yv (kvs:=rkD (U.take k)) (fun z=>Jp (f:=fun s:Sg=>s.1) nd hs (Tn (f:=fun s:Sg=>s.1) z)),Dj hs]
 unfold rkD; rw [List.map_append]; rfl
theorem Agz {J:List Jn} {k:Nat} {s:Jn} (nd:(J.map (·.1)).Nodup) (hs:J[k]? = some s):Jc (ptD (J.take k)) (.inl s.1) (.tup [.int s.2.1,.int s.2.2]) = ptD (J.take (k + 1)):=by
 rw [Yv (kvs:=ptD (J.take k)) (fun z=>Jp (f:=fun s:Jn=>s.1) nd hs (Tn (f:=fun s:Jn=>s.1) z)),Dj hs]
 unfold ptD; rw [List.map_append]; rfl
theorem Aal {U:List Sg} {M:List (Int × Int)} {J:List Jn} (b:Fl U M J) {n:Int} (h:Vr U M n = false):Cn U n = 0:=by
 by_cases z:n ∈ U.map (·.1)
 ·obtain ⟨s,hs,rfl⟩:=List.mem_map.mp z
  rw [Ws (List.nodup_append.mp b.nd).1 hs]
  rcases (b.so s hs).rk with ⟨k,_⟩ | ⟨_,r⟩
  ·have:=of_decide_eq_false h
   rw [AgG (Aar b.nd hs)] at this
   exact absurd k this
  ·exact r
 ·exact Aey z
theorem AaO {U:List Sg} {M:List (Int × Int)} {J:List Jn} (b:Fl U M J) {n:Int} (h:Vr U M n = true):1 <= Cn U n:=Vo b (of_decide_eq_true h)
theorem Ahm {U:List Sg} {M:List (Int × Int)} {J:List Jn} (b:Fl U M J) (n:Int):Vr U M n = decide (Cn U n > 0):=by
 cases h:Vr U M n with
 | true=>have:=AaO b h; rw [decide_eq_true (by omega)]
 | false=>rw [Aal b h]; rfl
section
variable {U:List Sg} {M:List (Int × Int)} {J:List Jn}
def jnd (J:List Jn) (a b:Int):Option Int:=(J.find? fun j=>decide (j.2.1 = a/\j.2.2 = b)).map (·.1)
end
theorem AjT (J:List Jn) (a b:Int):Xu J a b = match jnd J a b with
 | some w=>PV.int w
 | none=>PV.non:=by
 unfold Xu jnd
 induction J with
 | nil=>rfl
 | cons j r ih =>
  show vP ((Cd (([Sum.inl j.2.1,Sum.inl j.2.2],V.int j.1) :: kW r) [Sum.inl a,Sum.inl b]).getD .non) = _
  rw [List.find?_cons]
  by_cases z:j.2.1 = a/\j.2.2 = b
  ·rw [Jd (by rw [z.1,z.2]),decide_eq_true z]; rfl
  ·rw [Jb (fun e=>z (by simpa using e)),decide_eq_false z]; exact ih
section
variable {U:List Sg} {M:List (Int × Int)} {J:List Jn}
theorem Nq (bk:Fl U M J) {a m w:Int} (e:jnd J a m = some w):Ce J w = some (a,m):=by
 unfold jnd at e
 obtain ⟨j,h1,h2⟩:=Option.map_eq_some_iff.mp e
 have h3:decide (j.2.1 = a/\j.2.2 = m) = true:=(List.find?_eq_some_iff_append.mp h1).1
 have h4:=Wk bk.jo.nw (List.mem_of_find?_eq_some h1)
 rw [<- h2,h4,<- (of_decide_eq_true h3).1,<- (of_decide_eq_true h3).2]
theorem Jr (bk:Fl U M J) {a m w:Int} (e:Ce J w = some (a,m)):jnd J a m = some w:=by
 cases h:jnd J a m with
 | none =>
  unfold jnd at h
  rw [Option.map_eq_none_iff,List.find?_eq_none] at h
  exact absurd (by simp) (h _ (Go e))
 | some v =>
  have h1:=Go (Nq bk h)
  have h2:=Go e
  obtain ⟨i,hi,e1⟩:=List.mem_iff_getElem.mp h1
  obtain ⟨j,hj,e2⟩:=List.mem_iff_getElem.mp h2
  have nd:=bk.jo.np
  have:i = j:=by
   rcases Nat.lt_trichotomy i j with z | z | z
   ·exact absurd (by rw [List.getElem_map,List.getElem_map,e1,e2]) (List.pairwise_iff_getElem.mp nd i j (by simpa using hi) (by simpa using hj) z)
   ·exact z
   ·exact absurd (by rw [List.getElem_map,List.getElem_map,e1,e2]) (List.pairwise_iff_getElem.mp nd j i (by simpa using hj) (by simpa using hi) z)
  subst this
  rw [e1] at e2
  exact congrArg some (congrArg Prod.fst e2)
end
theorem Nu {α:Type} (xs:List α) (lo hi:Option Int):(Fy xs lo hi).length <= xs.length:=by
 unfold Fy; rw [List.length_take,List.length_drop]; omega
theorem Zl {α:Type} {g:α->Int} (l:List α):(l.filterMap fun a=>some (PV.int (g a))) = (l.map g).map PV.int:=by
 induction l with
 | nil=>rfl
 | cons a l ih=>simp [ih]
theorem AdH {α:Type} {g:α->Int} (l:List α):(l.map fun a=>PV.int (g a)) = (l.map g).map PV.int:=by rw [List.map_map]; rfl
section
variable {U:List Sg} {M:List (Int × Int)} {J:List Jn}
end
section
variable {U:List Sg} {M:List (Int × Int)} {J:List Jn}
def JD (J:List Jn) (ks:List Int) (kvs:List (List Key × PV)):Prop:=∀ a b:Int,Cu kvs [Sum.inl a,Sum.inl b] = match jnd J a b with
 | some w=>if w ∈ ks then some (.int w) else none
 | none=>none
theorem JD.nil:JD J [] []:=fun a b=>by
 cases jnd J a b with
 | none=>rfl
 | some w=>rw [show Cu ([]:List (List Key × PV)) [Sum.inl a,Sum.inl b] = none from rfl]; simp
theorem JD.put (bk:Fl U M J) {ks:List Int} {kvs:List (List Key × PV)} (h:JD J ks kvs) {w x y:Int} (e:Ce J w = some (x,y)):JD J (ks ++ [w]) (Jc kvs [Sum.inl x,Sum.inl y] (.int w)):=fun a b=>by
 rw [AeW,h a b]
 by_cases z:([Sum.inl x,Sum.inl y]:List Key) = [Sum.inl a,Sum.inl b]
 ·have z1:x = a:=Sum.inl.inj (List.cons.inj z).1
  have z2:y = b:=Sum.inl.inj (List.cons.inj (List.cons.inj z).2).1
  subst z1 z2
  rw [if_pos rfl,Jr bk e]
  simp
 ·rw [if_neg z]
  cases q:jnd J a b with
  | none=>rfl
  | some v =>
   have ne:¬ v = w:=fun t=>z (by
    have q1:=Nq bk q
    rw [t,e] at q1
    have q2:=Option.some.inj q1
    rw [(Prod.mk.inj q2).1,(Prod.mk.inj q2).2])
   simp [ne]
theorem JD.all (bk:Fl U M J) {ks:List Int} {kvs:List (List Key × PV)} (h:JD J ks kvs) (p:ks.Perm (J.map (·.1))) (a b:Int):Cu kvs [Sum.inl a,Sum.inl b] = (jnd J a b).map PV.int:=by
 rw [h a b]
 cases q:jnd J a b with
 | none=>rfl
 | some w =>
  have:w ∈ ks:=p.mem_iff.mpr (List.mem_map.mpr ⟨_,Go (Nq bk q),rfl⟩)
  simp [this]
theorem Ad9 {κ:Type} [DecidableEq κ] (kvs:List (κ × PV)) (k:κ) (v:PV):(Jc kvs k v).length <= kvs.length + 1:=by
 unfold Jc
 split
 ·rw [List.length_map]; omega
 ·simp
theorem Zg (bk:Fl U M J) {w:Int} (h:w ∈ J.map (·.1)):∃ x y,Ce J w = some (x,y):=by
 obtain ⟨j,hj,rfl⟩:=List.mem_map.mp h
 exact ⟨j.2.1,j.2.2,Wk bk.jo.nw hj⟩
end
section
variable {U:List Sg} {M:List (Int × Int)} {J:List Jn}
end
theorem Uh {α:Type} (xs:List α) (p:Nat):Fy xs none (some (p:Int)) = xs.take p:=by
 unfold Fy
 rw [HT.sIx_nat,HT.sIx_none]
 simp
theorem Us {α:Type} (xs:List α) (p:Nat):Fy xs (some (p:Int)) none = xs.drop p:=by
 unfold Fy
 rw [HT.sIx_nat,HT.sIx_none]
 by_cases h:p <= xs.length
 ·rw [Nat.min_eq_left h]
  exact List.take_of_length_le (by rw [List.length_drop]; omega)
 ·rw [Nat.min_eq_right (by omega),List.drop_eq_nil_of_le (by omega)]
  simp; omega
section
variable {U:List Sg} {M:List (Int × Int)} {J:List Jn}
theorem Zp (bk:Fl U M J) {x:Int} (h:Cn U x > 0):Vr U M x = true:=by rw [Ahm bk]; exact decide_eq_true h
end
local macro_rules | `(tactic| walk_at "rd")=>`(tactic| repeat (first
 | with_reducible refine Abv ?_ | with_reducible refine AjH rfl ?_ | with_reducible refine i_c ?_ | with_reducible refine AkW ?_ | with_reducible refine i_un ?_ | with_reducible refine i_rU ?_ | with_reducible refine Ajl ?_
 | with_reducible refine AfM ?_ | with_reducible refine AfT ?_ | with_reducible refine AfG ?_ | with_reducible refine Afy ?_ | with_reducible refine AkN ?_ | with_reducible refine Ahw ?_ | with_reducible refine Ajo ?_
 | with_reducible refine i_and ?_ | with_reducible refine i_or ?_ | with_reducible refine Ajm ?_ | with_reducible refine AhB ?_ | with_reducible refine i_orV ?_ | with_reducible refine AiI ?_ | with_reducible refine i_isN ?_ | with_reducible refine i_notN ?_
 | with_reducible refine AkD ?_ | with_reducible refine AhA ?_ | with_reducible refine AjC ?_ | with_reducible refine i_retN ?_ | with_reducible refine AkF ?_ | with_reducible refine Ajr ?_ | with_reducible refine AgT ?_
 | with_reducible refine Ahh (SqT.of (by assumption)) rfl ?_ | with_reducible refine AgC ?_ | with_reducible refine Aip ?_ | with_reducible refine AiZ ?_ | with_reducible refine i_meth ?_ | with_reducible refine i_make ?_
 | with_reducible refine AjR ?_ | with_reducible refine AiV ?_ | with_reducible refine i_lst ?_ | with_reducible refine Ake ?_ | with_reducible refine Aj4 ?_ | with_reducible refine AkV ?_ | with_reducible refine AjK ?_ | with_reducible refine AdS ?_
 | with_reducible refine Aii ?_ | with_reducible refine Agw ?_ | with_reducible refine Ag6 ?_ | with_reducible refine AiH ?_ | with_reducible refine Ain ?_ | with_reducible refine i_bm0 ?_ | with_reducible refine AkT ?_
 | with_reducible refine AhM ?_ | with_reducible refine AhX ?_ | with_reducible refine AkS ?_ | with_reducible refine Ad8 ?_ | with_reducible refine AhY ?_ | with_reducible refine AjA ?_ | with_reducible refine i_ifE ?_ | with_reducible refine i_int1 ?_
 | with_reducible refine Ahl ?_ | with_reducible refine Aht ?_
 | with_reducible refine Lh ?_ | with_reducible refine Nt ?_ | with_reducible refine Aa7 ?_ | with_reducible refine Abq ?_
 | with_reducible refine Aer ?_ | with_reducible refine AcX ?_ | with_reducible refine AeU ?_ | with_reducible refine Ais (by assumption) ?_ | with_reducible refine AjZ (by assumption) ?_
 | with_reducible refine Acn (by assumption) ?_ | with_reducible refine Acn (SqL.of (by assumption)) ?_ | with_reducible refine AiP (by assumption) ?_ | with_reducible refine j_min ?_
 | with_reducible refine Akn (by assumption) ?_ | with_reducible refine j_dnotin (by assumption) ?_ | with_reducible refine Aca (by assumption) ?_ ?_ | with_reducible refine Ajv (by assumption) ?_ | with_reducible refine Aih (by assumption) ?_
 | with_reducible refine Ajt (by assumption) ?_ | with_reducible refine j_append (by assumption) ?_ ?_ | with_reducible refine j_clear (by assumption) ?_
 | walk_at "u" | dsimp only [List.set,List.cons_append,List.nil_append,List.append_nil]))
local macro_rules | `(tactic| walk_at "cs")=>`(tactic| dsimp only [compσ,List.replicate,List.map_cons,List.map_nil,List.getElem?_cons_succ,List.getElem?_cons_zero,Option.join_some,List.cons_append,List.nil_append])
local macro_rules | `(tactic| walk_at "pr")=>`(tactic| repeat (first
 | with_reducible refine Afs ?_ | with_reducible refine Ae8 rfl rfl ?_ | with_reducible refine AdM rfl ?_ | with_reducible refine p_c ?_ | with_reducible refine Ahf ?_ | with_reducible refine Ah5 ?_ | with_reducible refine p_i ?_ | with_reducible refine p_u ?_ | with_reducible refine b_u ?_
 | with_reducible refine AfH ?_ | with_reducible refine Afi ?_ | with_reducible refine Afq ?_ | with_reducible refine AfD ?_ | with_reducible refine AfE ?_ | with_reducible refine Af6 ?_ | with_reducible refine p_notN ?_ | with_reducible refine p_b ?_ | with_reducible refine b_b ?_
 | with_reducible refine AfB ?_ | with_reducible refine Aix ?_ | with_reducible refine Afh ?_ | with_reducible refine Ac9 ?_ | with_reducible refine p_orV ?_ | with_reducible refine Aco ?_ | with_reducible refine Agc ?_
 | with_reducible refine Adq ?_ | with_reducible refine p_break ?_ | with_reducible refine p_cont ?_ | with_reducible refine p_drop ?_ | with_reducible refine AfW ?_ | with_reducible refine Ab9 rfl ?_ | with_reducible refine p_retN ?_ | with_reducible refine Aiz ?_ | with_reducible refine Af2 ?_ | with_reducible refine Acf ?_ | with_reducible refine Afg ?_
 | with_reducible refine Aav ?_ | with_reducible refine Aao ?_ | with_reducible refine p_gPair ?_ | with_reducible refine Afr ?_ | with_reducible refine Adf rfl ?_ | with_reducible refine Aaz ?_ | with_reducible refine Ab3 ?_
 | with_reducible refine Afj ?_ | with_reducible refine AcS ?_ | with_reducible refine Afx ?_ | with_reducible refine Ae6 ?_ | with_reducible refine AfX ?_ | with_reducible refine Afd ?_
 | with_reducible refine AcG ?_ | with_reducible refine Ac0 ?_ | with_reducible refine b_ix3c ?_ | with_reducible refine Ade ?_ | with_reducible refine Acr ?_ | with_reducible refine AbZ ?_ | with_reducible refine Ab7 ?_ | with_reducible refine b_ixjc ?_ | with_reducible refine AdI ?_ | with_reducible refine Acz ?_ | with_reducible refine AcC ?_
 | with_reducible refine Zz ?_ | with_reducible refine AdN ?_ | with_reducible refine AcI ?_ | with_reducible refine AfK ?_ | with_reducible refine AfO ?_ | with_reducible refine Afk ?_ | with_reducible refine p_slT ?_ | with_reducible refine AfY ?_ | with_reducible refine Aga ?_ ?_ | with_reducible refine Af8 ?_ ?_ | with_reducible refine Ae5 ?_ ?_ | with_reducible refine b_mul ?_ ?_ | with_reducible refine Agg ?_ ?_
 | with_reducible refine AhN ?_ | with_reducible refine Acg ?_ | with_reducible refine b_lenT ?_ | with_reducible refine b_lenS ?_ | with_reducible refine b_min ?_ | with_reducible refine b_max ?_ | with_reducible refine b_intI ?_ | with_reducible refine b_intB ?_ | with_reducible refine AaC ?_ | with_reducible refine AaF ?_ | with_reducible refine b_listS ?_
 | with_reducible refine Afc rfl ?_ | with_reducible refine Afo rfl ?_ ?_ | with_reducible refine p_clear rfl ?_ | with_reducible refine Afz ?_ | with_reducible refine Ae7 ?_ | with_reducible refine b_dnotin ?_ | with_reducible refine AcP ?_ | with_reducible refine AaT rfl rfl ?_ | with_reducible refine Aak ?_ | with_reducible refine Ab4 rfl ?_ | with_reducible refine Act rfl ?_ ?_
 | with_reducible refine AfS ?_ | with_reducible refine Afb ?_ | with_reducible refine b_L ?_ | with_reducible refine b_S ?_ | with_reducible refine Ab8 rfl ?_ | with_reducible refine p_uiBs rfl ?_ | with_reducible refine p_for1 ?_ | with_reducible refine p_for2 ?_ | with_reducible refine AdK ?_ | with_reducible refine p_compR ?_ | with_reducible refine Ads ?_
 | with_reducible refine AcF ?_ | with_reducible refine Afw ?_ | with_reducible refine p_eqT ?_ | with_reducible refine p_in ?_ | with_reducible refine p_isT ?_ | with_reducible refine b_isLL ?_ | with_reducible refine b_isNL ?_ | with_reducible refine b_isII ?_ | with_reducible refine b_isIB ?_ | with_reducible refine b_isSS ?_ | with_reducible refine b_isTT ?_ | with_reducible refine b_isBI ?_ | with_reducible refine b_isBB ?_ | with_reducible refine b_R1 ?_ ?_ | with_reducible refine b_R2 ?_ ?_ | with_reducible refine Yh ?_ | with_reducible refine Aho ?_ | with_reducible refine Ah0 ?_ | with_reducible refine Ait ?_ | with_reducible refine Ahv ?_ | with_reducible refine pf_dnew ?_
 | with_reducible refine AaE ?_ | with_reducible refine AaG ?_ | with_reducible refine Afv ?_ | with_reducible refine Aam ?_ | with_reducible refine p_setX ?_ | with_reducible refine p_ifX ?_ | with_reducible refine AfJ ?_ | with_reducible refine Aft ?_ | with_reducible refine b_isXT ?_ | with_reducible refine p_ch ?_ | with_reducible refine p_last ?_ | with_reducible refine p_link ?_ | with_reducible refine b_abs ?_
 | with_reducible refine p_share rfl ?_
 | with_reducible refine Lh ?_ | with_reducible refine Nt ?_ | with_reducible refine Aa7 ?_ | with_reducible refine Abq ?_
 | walk_at "u" | dsimp only [List.set,List.cons_append,List.nil_append,List.append_nil,Zk]))
local macro_rules | `(tactic| walk_at "u")=>`(tactic| first | with_reducible refine p_ins rfl ?_ | with_reducible refine b_ins0 rfl ?_ ?_)
local macro_rules | `(tactic| walk_at "u")=>`(tactic| first | with_reducible refine p_ext rfl ?_ | with_reducible refine b_ext rfl ?_ ?_ | with_reducible refine p_sortK ?_ | with_reducible refine b_sortK (fun _ _=>?_) ?_ | with_reducible refine p_slS ?_ | with_reducible refine b_slSL ?_ (by decide) | with_reducible refine b_slSS ?_ (by decide) | with_reducible refine Aia ?_ | with_reducible refine p_compE ?_ | with_reducible refine p_maxD ?_ | with_reducible refine p_minD ?_ | with_reducible refine Ahr ?_ | with_reducible refine Aic ?_ | with_reducible refine Ag4 ?_ | with_reducible refine AgE rfl ?_ | with_reducible refine AgL rfl ?_ ?_)
local macro_rules | `(tactic| walk_at "cp")=>`(tactic| dsimp only [compρ,List.replicate,List.map_cons,List.map_nil,List.getElem?_cons_succ,List.getElem?_cons_zero,Option.getD_some,boS,List.cons_append,List.nil_append])
local macro_rules | `(tactic| walk_at "u")=>`(tactic| first | with_reducible refine AiB ?_ | with_reducible refine b_ixL2 ?_ | with_reducible refine b_ixL3 ?_ | with_reducible refine p_rev ?_ | with_reducible refine b_rev ?_ | with_reducible refine b_LR1 ?_ ?_ | with_reducible refine Aj8 ?_ ?_ ?_ | with_reducible refine p_for3 ?_ | with_reducible refine b_R3 ?_ ?_ | with_reducible refine p_forV ?_ | with_reducible refine p_idx ?_ | with_reducible refine b_all ?_ | with_reducible refine p_put rfl ?_ | with_reducible refine p_rep ?_ | with_reducible refine b_rep ?_ ?_ | with_reducible refine p_appT ?_ | with_reducible refine p_gLst rfl ?_ | with_reducible refine p_eqO ?_ | with_reducible refine b_lenDT ?_ | with_reducible refine b_dinP ?_ | with_reducible refine b_dputP rfl ?_ ?_ | with_reducible refine p_compT ?_ | with_reducible refine b_Tp ?_ | with_reducible refine b_TpP ?_ | with_reducible refine b_isTP ?_ | with_reducible refine b_lenP ?_ | with_reducible refine p_eqB ?_ | with_reducible refine b_eqB ?_ | with_reducible refine b_neB ?_)
local macro_rules | `(tactic| walk_at "sd")=>`(tactic| all_goals try first
 | ((with_reducible show (_:Int) < _); first | decide | omega | (simp only [List.length_map,List.length_replicate,List.length_range,List.length_append,List.length_reverse]; omega))
 | ((with_reducible show Abg _ _); exact ⟨by omega,by omega⟩)
 | ((with_reducible show AbD _ _); exact ⟨by decide,by decide,by decide⟩)
 | ((with_reducible show CMul _ _); first | exact .inr ⟨by omega,by omega⟩ | exact .inl ⟨by omega,by omega⟩)
 | ((with_reducible show (_:Nat) < _); first | omega | (simp only [List.length_map,List.length_replicate,List.length_range,List.length_append,List.length_reverse]; omega))
 | ((with_reducible show (_:Nat) <= _); first | omega | (simp only [List.length_map,List.length_replicate,List.length_range,List.length_append,List.length_reverse]; omega))
 | ((with_reducible show (_:Int) <= _/\_); first | omega | (simp only [List.length_map,List.length_replicate,List.length_range,List.length_append,List.length_reverse]; omega)))
local macro_rules | `(tactic| walk_at "u")=>`(tactic| first | with_reducible refine p_forZ ?_ | with_reducible refine b_LL ?_ | with_reducible refine p_compZ ?_ | with_reducible refine p_compV ?_ | with_reducible refine p_compR2 ?_ | with_reducible refine p_dget2E ?_ | with_reducible refine b_isD ?_ | with_reducible refine p_aug rfl rfl ?_ | with_reducible refine Akq ?_ | with_reducible refine Ae9 ?_ | with_reducible refine AgV ?_ | with_reducible refine p_frz rfl (fun z=>?_) | with_reducible refine p_dgetF rfl rfl ?_ | with_reducible refine b_aug ?_)
local macro_rules | `(tactic| walk_at "px")=>`(tactic| repeat (first
 | with_reducible refine Ae8 rfl rfl ?_ | with_reducible refine AdM rfl ?_ | with_reducible refine p_c ?_ | with_reducible refine Ahf ?_ | with_reducible refine Ah5 ?_ | with_reducible refine p_i ?_ | with_reducible refine p_u ?_ | with_reducible refine b_u ?_
 | with_reducible refine AfH ?_ | with_reducible refine Afi ?_ | with_reducible refine Afq ?_ | with_reducible refine AfD ?_ | with_reducible refine AfE ?_ | with_reducible refine Af6 ?_ | with_reducible refine p_notN ?_ | with_reducible refine p_b ?_ | with_reducible refine b_b ?_
 | with_reducible refine AfB ?_ | with_reducible refine Aix ?_ | with_reducible refine Afh ?_ | with_reducible refine Ac9 ?_ | with_reducible refine p_orV ?_ | with_reducible refine Aco ?_ | with_reducible refine Agc ?_
 | with_reducible refine Adq ?_ | with_reducible refine p_break ?_ | with_reducible refine p_cont ?_ | with_reducible refine p_drop ?_ | with_reducible refine AfW ?_ | with_reducible refine Ab9 rfl ?_ | with_reducible refine p_retN ?_ | with_reducible refine Aiz ?_ | with_reducible refine Af2 ?_ | with_reducible refine Acf ?_ | with_reducible refine Afg ?_
 | with_reducible refine Aav ?_ | with_reducible refine Aao ?_ | with_reducible refine p_gPair ?_ | with_reducible refine Afr ?_ | with_reducible refine Adf rfl ?_ | with_reducible refine Aaz ?_ | with_reducible refine Ab3 ?_
 | with_reducible refine Afj ?_ | with_reducible refine AcS ?_ | with_reducible refine Afx ?_ | with_reducible refine Ae6 ?_ | with_reducible refine AfX ?_ | with_reducible refine Afd ?_
 | with_reducible refine AcG ?_ | with_reducible refine Ac0 ?_ | with_reducible refine b_ix3c ?_ | with_reducible refine Ade ?_ | with_reducible refine Acr ?_ | with_reducible refine AbZ ?_ | with_reducible refine Ab7 ?_ | with_reducible refine b_ixjc ?_ | with_reducible refine AdI ?_ | with_reducible refine Acz ?_ | with_reducible refine AcC ?_
 | with_reducible refine Zz ?_ | with_reducible refine AdN ?_ | with_reducible refine AcI ?_ | with_reducible refine AfK ?_ | with_reducible refine AfO ?_ | with_reducible refine Afk ?_ | with_reducible refine p_slT ?_ | with_reducible refine AfY ?_ | with_reducible refine Aga ?_ ?_ | with_reducible refine Af8 ?_ ?_ | with_reducible refine Ae5 ?_ ?_ | with_reducible refine b_mul ?_ ?_ | with_reducible refine Agg ?_ ?_
 | with_reducible refine AhN ?_ | with_reducible refine Acg ?_ | with_reducible refine b_lenT ?_ | with_reducible refine b_lenS ?_ | with_reducible refine b_min ?_ | with_reducible refine b_max ?_ | with_reducible refine b_intI ?_ | with_reducible refine b_intB ?_ | with_reducible refine AaC ?_ | with_reducible refine AaF ?_ | with_reducible refine b_listS ?_
 | with_reducible refine Afc rfl ?_ | with_reducible refine Afo rfl ?_ ?_ | with_reducible refine p_clear rfl ?_ | with_reducible refine Afz ?_ | with_reducible refine Ae7 ?_ | with_reducible refine b_dnotin ?_ | with_reducible refine AcP ?_ | with_reducible refine AaT rfl rfl ?_ | with_reducible refine Aak ?_ | with_reducible refine Ab4 rfl ?_ | with_reducible refine Act rfl ?_ ?_
 | with_reducible refine AfS ?_ | with_reducible refine Afb ?_ | with_reducible refine b_L ?_ | with_reducible refine b_S ?_ | with_reducible refine Ab8 rfl ?_ | with_reducible refine p_uiBs rfl ?_ | with_reducible refine p_for1 ?_ | with_reducible refine p_for2 ?_ | with_reducible refine AdK ?_ | with_reducible refine p_compR ?_ | with_reducible refine Ads ?_
 | with_reducible refine AcF ?_ | with_reducible refine Afw ?_ | with_reducible refine p_eqT ?_ | with_reducible refine p_in ?_ | with_reducible refine p_isT ?_ | with_reducible refine b_isLL ?_ | with_reducible refine b_isNL ?_ | with_reducible refine b_isII ?_ | with_reducible refine b_isIB ?_ | with_reducible refine b_isSS ?_ | with_reducible refine b_isTT ?_ | with_reducible refine b_isBI ?_ | with_reducible refine b_isBB ?_ | with_reducible refine b_R1 ?_ ?_ | with_reducible refine b_R2 ?_ ?_ | with_reducible refine Yh ?_ | with_reducible refine Aho ?_ | with_reducible refine Ah0 ?_ | with_reducible refine Ait ?_ | with_reducible refine Ahv ?_ | with_reducible refine pf_dnew ?_
 | with_reducible refine AaE ?_ | with_reducible refine AaG ?_ | with_reducible refine Afv ?_ | with_reducible refine Aam ?_ | with_reducible refine p_setX ?_ | with_reducible refine p_ifX ?_ | with_reducible refine AfJ ?_ | with_reducible refine Aft ?_ | with_reducible refine b_isXT ?_ | with_reducible refine p_ch ?_ | with_reducible refine p_last ?_ | with_reducible refine p_link ?_ | with_reducible refine b_abs ?_
 | with_reducible refine p_share rfl ?_
 | with_reducible refine Lh ?_ | with_reducible refine Nt ?_ | with_reducible refine Aa7 ?_ | with_reducible refine Abq ?_
 | walk_at "u" | dsimp only [List.set,List.cons_append,List.nil_append,List.append_nil,Zk]))
section
variable {P:Program} {w:World} {K:PySem.W.Frag} {mg:Str->Option Value} {base:Heap} {t:Adr}
def Rv:Sp:=fun vs H Q _=>∃ b,vs = [.bl true,b]/\Q .non H
theorem AdY {b:Bool} {z:V} {H:Hp} {Q:VK} {E:XK} (q:Q .non H) (h:b = true):Rv [.bl b,z] H Q E:=⟨z,by rw [h],q⟩
theorem AdC {z:V} {H:Hp} {Q:VK} {E:XK} (q:Q .non H):Rv [.bl true,z] H Q E:=⟨z,rfl,q⟩
local macro_rules | `(tactic| walk_at "u")=>`(tactic| with_reducible refine AdY ?_ ?_)
local macro_rules | `(tactic| walk_at "u")=>`(tactic| with_reducible refine AdC ?_)
theorem Jy (T:Txt K mg t):Binds K t.d_qc ["held","words"] []:=T.F_qc.binds (ps:=["held","words"]) fun _ _ _ _ _ _ us hl=>match us,hl with | [_,_],_=>rfl
theorem Gp (T:Txt K mg t):FnOk P w K mg base (CX1 P w) 1 t.f_qc t.d_qc ["held","words"] (Rv):=by
 refine T.F_qc.ok1 Ako (fun vs H Q E h=>?_) (fun cdv A outer s H vs Q E hr h=>?_)
 ·obtain ⟨b,rfl,q⟩:=h
  rfl
 ·obtain ⟨b,rfl,q⟩:=h
  have hu:=Co hr
  have hu64:=hr.units
  refine ⟨_,(Bh (Di (Ry (Sn (pv 0)))
    (Bh (Jt PySem.F.excBase_ValueError T.x_NoBook T.m_NoBook hr.hd rfl (Ba (pv 1) Bb)))
    Cw)),?_⟩
  try dsimp only [Cg,Bw]
  walk_at "rd"
  exact q
def Xz:Sp:=fun vs H Q _=>∃ n,vs = [.int n]/\Q (.bl true) H
theorem Ag9 {n:Int} {H:Hp} {Q:VK} {E:XK} (q:Q (.bl true) H):Xz [.int n] H Q E:=⟨n,rfl,q⟩
local macro_rules | `(tactic| walk_at "u")=>`(tactic| with_reducible refine Ag9 ?_)
theorem AiM (T:Txt K mg t):Binds K t.d_qa ["thing"] []:=T.F_qa.binds (ps:=["thing"]) fun _ _ _ _ _ _ us hl=>match us,hl with | [_],_=>rfl
theorem Agd (T:Txt K mg t):FnOk P w K mg base (CX1 P w) 1 t.f_qa t.d_qa ["thing"] (Xz):=by
 refine T.F_qa.ok1 Akt (fun vs H Q E h=>?_) (fun cdv A outer s H vs Q E hr h=>?_)
 ·obtain ⟨n,rfl,q⟩:=h
  rfl
 ·obtain ⟨n,rfl,q⟩:=h
  have hu:=Co hr
  have hu64:=hr.units
  refine ⟨_,(Bh (Cc (Le (Ck (Gs) rfl T.z_isinstance PyProof.Rows.boot_isinstance (Ba (pv 0) (Ba (Nd (v:=.ty "int") rfl T.z_int PyProof.Rows.boot_int rfl) Bb))) (Ni (Adh (Ck (Gs) rfl T.z_isinstance PyProof.Rows.boot_isinstance (Ba (pv 0) (Ba (Nd (v:=.ty "bool") rfl T.z_bool PyProof.Rows.boot_bool rfl) Bb)))))))),?_⟩
  try dsimp only [Cg,Bw]
  walk_at "rd"
  exact q
def AaW:Sp:=fun vs H Q _=>∃ n,vs = [.int n]/\Q (.bl (decide (0 <= n))) H
theorem Aja {n:Int} {H:Hp} {Q:VK} {E:XK} (q:Q (.bl (decide (0 <= n))) H):AaW [.int n] H Q E:=⟨n,rfl,q⟩
local macro_rules | `(tactic| walk_at "u")=>`(tactic| with_reducible refine Aja ?_)
theorem Xh (T:Txt K mg t):Binds K t.d_qbk ["thing"] []:=T.F_qbk.binds (ps:=["thing"]) fun _ _ _ _ _ _ us hl=>match us,hl with | [_],_=>rfl
theorem Ut (T:Txt K mg t):FnOk P w K mg base (CX1 P w) 2 t.f_qbk t.d_qbk ["thing"] (AaW):=by
 refine T.F_qbk.ok1 AiG (fun vs H Q E h=>?_) (fun cdv A outer s H vs Q E hr h=>?_)
 ·obtain ⟨n,rfl,q⟩:=h
  rfl
 ·obtain ⟨n,rfl,q⟩:=h
  have hu:=Co hr
  have hu64:=hr.units
  refine ⟨_,(Bh (Cc (Le (Bo (Agd T) (hr.mono (by decide)) rfl T.m_qa T.F_qa.kp (AiM T) .nil Bs (Ba (pv 0) Bb)) (Ni (Gc Abf (pv 0) Bf (Ci _)))))),?_⟩
  try dsimp only [Cg,Bw]
  walk_at "rd"
  exact q
def AeZ:Sp:=fun vs H Q _=>∃ a xs n,vs = [.ref a,.int n]/\H a = some (.lst xs)/\(∀ x ∈ xs,∃ b ys,x = .ref b/\H b = some (.tup ys)/\((ys.length:Nat):Int) = n)/\Q .non H
theorem AeY (T:Txt K mg t):Binds K t.d_qd ["rows","length"] []:=T.F_qd.binds (ps:=["rows","length"]) fun _ _ _ _ _ _ us hl=>match us,hl with | [_,_],_=>rfl
theorem Abu (T:Txt K mg t):FnOk P w K mg base (CX1 P w) 2 t.f_qd t.d_qd ["rows","length"] (AeZ):=by
 refine T.F_qd.ok1 sc_qd (fun vs H Q E h=>?_) (fun cdv A outer s H vs Q E hr h=>?_)
 ·obtain ⟨a,xs,n,rfl,hx,hr',q⟩:=h
  rfl
 ·obtain ⟨a,xs,n,rfl,hx,hr',q⟩:=h
  have hu:=Co hr
  have hu64:=hr.units
  refine ⟨_,(Be (Cl (Bo (Gp T) (hr.mono (by decide)) rfl T.m_qc T.F_qc.kp (Jy T) .nil Bs (Ba (Ck (Gs) rfl T.z_isinstance PyProof.Rows.boot_isinstance (Ba (pv 0) (Ba (Nd (v:=.ty "list") rfl T.z_list PyProof.Rows.boot_list rfl) Bb))) (Ba Bu Bb))))
   (Bh (Dm PassesOwn.leaving rfl (Dh (pv 0)) (By (i:=2) sc_qd.nd rfl (Or.inl rfl))
    (Bh (Cl (Bo (Gp T) (hr.mono (by decide)) rfl T.m_qc T.F_qc.kp (Jy T) .nil Bs (Ba (Le (Ck (Gs) rfl T.z_isinstance PyProof.Rows.boot_isinstance (Ba (pv 2) (Ba (Nd (v:=.ty "tuple") rfl T.z_tuple PyProof.Rows.boot_tuple rfl) Bb))) (Ni (Gc Fr (Ck (Fw) rfl T.z_len PySem.boot_len (Ba (pv 2) Bb)) (pv 1) (Ci _)))) (Ba Bu Bb)))))))),?_⟩
  try dsimp only [Cg,Bw]
  walk_at "rd"
  refine Oq rfl (SqL.of hx) (fun i σ H'=>∃ v,σ = [some (.ref a),some (.int n),v]/\H' = H) ⟨none,rfl,rfl⟩ (fun i σ H' _ ⟨_,_,e⟩=>by subst e; exact SqL.of hx) ?_ ?_
  ·rintro i x σ H' hi ⟨v,rfl,rfl⟩
   obtain ⟨b,ys,rfl,hy,hl⟩:=hr' x (List.mem_of_getElem? hi)
   walk_at "rd"
   ·exact ⟨_,rfl,rfl⟩
   ·exact decide_eq_true hl
  ·rintro σ H' ⟨v,rfl,rfl⟩
   exact q
theorem AgP {k:Str} (h:k ∈ toldK):inV (V.str k) [V.str "fore",V.str "back",V.str "num",V.str "blank",V.str "mark",V.str "forein",V.str "backin",V.str "out"] = true:=by
 have e:inV (V.str k) (toldK.map V.str) = true:=by
  unfold inV
  rw [List.any_map]
  exact List.any_eq_true.mpr ⟨k,h,by show (k == k) = true; exact beq_self_eq_true k⟩
 exact e
def Aap:Sp:=fun vs H Q _=>∃ k,vs = [.str k]/\k ∈ toldK/\Q (.bl true) H
theorem Ajg {k:Str} {H:Hp} {Q:VK} {E:XK} (q:Q (.bl true) H) (h:k ∈ toldK):Aap [.str k] H Q E:=⟨k,rfl,h,q⟩
local macro_rules | `(tactic| walk_at "u")=>`(tactic| with_reducible refine Ajg ?_ ?_)
theorem AkZ (T:Txt K mg t):Binds K t.d_qf ["thing"] []:=T.F_qf.binds (ps:=["thing"]) fun _ _ _ _ _ _ us hl=>match us,hl with | [_],_=>rfl
theorem AjQ (T:Txt K mg t):FnOk P w K mg base (CX1 P w) 1 t.f_qf t.d_qf ["thing"] (Aap):=by
 refine T.F_qf.ok1 Akp (fun vs H Q E h=>?_) (fun cdv A outer s H vs Q E hr h=>?_)
 ·obtain ⟨k,rfl,hk,q⟩:=h
  rfl
 ·obtain ⟨k,rfl,hk,q⟩:=h
  have hu:=Co hr
  have hu64:=hr.units
  refine ⟨_,(Bh (Cc (Le (Ck (Gs) rfl T.z_isinstance PyProof.Rows.boot_isinstance (Ba (pv 0) (Ba (Nd (v:=.ty "str") rfl T.z_str PyProof.Rows.boot_str rfl) Bb))) (Ni (Gc (Wc) (pv 0) (Ji (v:=.ref t.a_TOLD_KINDS) rfl T.g_TOLD_KINDS rfl) rfl))))),?_⟩
  try dsimp only [Cg,Bw]
  walk_at "rd"
  refine ⟨_,_,rfl,.inr (T.q_TOLD_KINDS _),rfl,rfl,?_⟩
  rw [show (if false = true then !inV (V.str k) _ else inV (V.str k) [V.str "fore",V.str "back",V.str "num",V.str "blank",V.str "mark",V.str "forein",V.str "backin",V.str "out"]) = true from AgP hk]
  exact q
def Ww:Sp:=fun vs H Q _=>∃ k r,vs = [.str k,.int r]/\Va k r/\Q (.bl true) H
theorem Ad3 {k:Str} {r:Int} {H:Hp} {Q:VK} {E:XK} (q:Q (.bl true) H) (h:Va k r):Ww [.str k,.int r] H Q E:=⟨k,r,rfl,h,q⟩
local macro_rules | `(tactic| walk_at "u")=>`(tactic| with_reducible refine Ad3 ?_ ?_)
theorem AkB (T:Txt K mg t):Binds K t.d_qo ["kind","thing"] []:=T.F_qo.binds (ps:=["kind","thing"]) fun _ _ _ _ _ _ us hl=>match us,hl with | [_,_],_=>rfl
theorem AjY (T:Txt K mg t):FnOk P w K mg base (CX1 P w) 2 t.f_qo t.d_qo ["kind","thing"] (Ww):=by
 refine T.F_qo.ok1 Ajp (fun vs H Q E h=>?_) (fun cdv A outer s H vs Q E hr h=>?_)
 ·obtain ⟨k,r,rfl,hk,q⟩:=h
  rfl
 ·obtain ⟨k,r,rfl,hk,q⟩:=h
  have hu:=Co hr
  have hu64:=hr.units
  refine ⟨_,(Be (Di (Ry (Sn (Bo (Agd T) (hr.mono (by decide)) rfl T.m_qa T.F_qa.kp (AiM T) .nil Bs (Ba (pv 1) Bb))))
    (Bh (Cc Qd))
    Cw)
   (Be (Di (Cj Fr (pv 0) Bu (Ci _))
    (Bh (Cc (Gc Abf (pv 1) Bf (Ci _))))
    Cw)
   (Bh (Cc (Gc Fr (pv 1) Bf (Ci _)))))),?_⟩
  try dsimp only [Cg,Bw]
  walk_at "rd"
  refine Nm (fun h=>?_) (fun h=>?_)
  ·have h':k = "mark":=of_decide_eq_true h
   walk_at "rd"
   rcases hk with ⟨_,hr1⟩ | ⟨hn,_⟩
   ·rw [decide_eq_true hr1]; exact q
   ·exact absurd h' hn
  ·have h':¬ k = "mark":=fun z=>h (decide_eq_true z)
   walk_at "rd"
   rcases hk with ⟨hm,_⟩ | ⟨_,hr0⟩
   ·exact absurd hm h'
   ·rw [decide_eq_true hr0]; exact q
def Zr:Sp:=fun vs H Q _=>∃ d kvs n,vs = [.ref d,.int n]/\H d = some (.dK kvs)/\Q ((Cd kvs (.inl n)).getD (.str "plain")) H
theorem Ag8 {d:Addr} {kvs:List (Key × V)} {n:Int} {H:Hp} {Q:VK} {E:XK} (h:H d = some (.dK kvs)) (q:Q ((Cd kvs (.inl n)).getD (.str "plain")) H):Zr [.ref d,.int n] H Q E:=⟨d,kvs,n,rfl,h,q⟩
local macro_rules | `(tactic| walk_at "u")=>`(tactic| with_reducible refine Ag8 (by assumption) ?_)
theorem Abx (T:Txt K mg t):Binds K t.d_qp ["kinds","sign"] []:=T.F_qp.binds (ps:=["kinds","sign"]) fun _ _ _ _ _ _ us hl=>match us,hl with | [_,_],_=>rfl
theorem Xi (T:Txt K mg t):FnOk P w K mg base (CX1 P w) 1 t.f_qp t.d_qp ["kinds","sign"] (Zr):=by
 refine T.F_qp.ok1 AjX (fun vs H Q E h=>?_) (fun cdv A outer s H vs Q E hr h=>?_)
 ·obtain ⟨d,kvs,n,rfl,hd,q⟩:=h
  rfl
 ·obtain ⟨d,kvs,n,rfl,hd,q⟩:=h
  have hu:=Co hr
  have hu64:=hr.units
  refine ⟨_,(Bh (Cc (Ub hu (pv 0) (pv 1) Bu ⟨rfl,rfl,rfl,rfl⟩))),?_⟩
  try dsimp only [Cg,Bw]
  walk_at "rd"
  exact q
def Adk:Sp:=fun vs H Q _=>∃ d kvs n k,vs = [.ref d,.int n,.str k]/\H d = some (.dK kvs)/\0 <= n/\Cd kvs (Sum.inl n) = none/\kvs.length <= 1000/\Q .non (upd H d (.dK (Gg kvs (Sum.inl n) (.str k))))
theorem AjD {d:Addr} {kvs:List (Key × V)} {n:Int} {k:Str} {H:Hp} {Q:VK} {E:XK} (h:H d = some (.dK kvs)) (q:Q .non (upd H d (.dK (kvs ++ [(Sum.inl n,.str k)])))) (hn:0 <= n) (hv:Cd kvs (Sum.inl n) = none) (hl:kvs.length <= 1000) :
  Adk [.ref d,.int n,.str k] H Q E:=⟨d,kvs,n,k,rfl,h,hn,hv,hl,by rw [Jw _ hv]; exact q⟩
local macro_rules | `(tactic| walk_at "u")=>`(tactic| with_reducible refine AjD (by assumption) ?_ ?_ ?_ ?_)
theorem Abm (T:Txt K mg t):Binds K t.d_qbi ["kinds","sign","kind"] []:=T.F_qbi.binds (ps:=["kinds","sign","kind"]) fun _ _ _ _ _ _ us hl=>match us,hl with | [_,_,_],_=>rfl
theorem Zv (T:Txt K mg t):FnOk P w K mg base (CX1 P w) 3 t.f_qbi t.d_qbi ["kinds","sign","kind"] (Adk):=by
 refine T.F_qbi.ok1 AhT (fun vs H Q E h=>?_) (fun cdv A outer s H vs Q E hr h=>?_)
 ·obtain ⟨d,kvs,n,k,rfl,hd,hn,hv,hl,q⟩:=h
  rfl
 ·obtain ⟨d,kvs,n,k,rfl,hd,hn,hv,hl,q⟩:=h
  have hu:=Co hr
  have hu64:=hr.units
  refine ⟨_,(Be (Cl (Bo (Gp T) (hr.mono (by decide)) rfl T.m_qc T.F_qc.kp (Jy T) .nil Bs (Ba (Bo (Ut T) (hr.mono (by decide)) rfl T.m_qbk T.F_qbk.kp (Xh T) .nil Bs (Ba (pv 1) Bb)) (Ba Bu Bb))))
   (Be (Cl (Bo (Gp T) (hr.mono (by decide)) rfl T.m_qc T.F_qc.kp (Jy T) .nil Bs (Ba (Vh (Oa hu (pv 1) (pv 0))) (Ba Bu Bb))))
   (Bh (Gn hu (pv 0) (pv 1) (pv 2) rfl)))),?_⟩
  try dsimp only [Cg,Bw]
  walk_at "rd"
  ·exact q
  ·exact Fh hl
  ·rw [hv]; rfl
  ·exact decide_eq_true hn
def Aev:Sp:=fun vs H Q _=>∃ a b xs ys signs mates,vs = [.ref a,.ref b]/\H a = some (.lst xs)/\H b = some (.lst ys)/\LAt TripAt H xs signs/\LAt PairAt H ys mates/\(∀ s ∈ signs,Xj s)/\(∀ m ∈ mates,0 <= m.1/\0 <= m.2) /\
 (signs.map (·.1) ++ ends mates).Nodup/\signs.length + 2 * mates.length <= 900/\∀ d,H d = none->Q (.ref d) (upd H d (.dK (kK signs ++ kM mates)))
theorem Ak3 (T:Txt K mg t):Binds K t.d_qq ["signs","mates"] []:=T.F_qq.binds (ps:=["signs","mates"]) fun _ _ _ _ _ _ us hl=>match us,hl with | [_,_],_=>rfl
theorem Aj3 (T:Txt K mg t):FnOk P w K mg base (CX1 P w) 4 t.f_qq t.d_qq ["signs","mates"] (Aev):=by
 refine T.F_qq.ok1 sc_qq (fun vs H Q E h=>?_) (fun cdv A outer s H vs Q E hr h=>?_)
 ·obtain ⟨a,b,xs,ys,signs,mates,rfl,ha,hb,ls,lm,so,mo,nd,hl,q⟩:=h
  rfl
 ·obtain ⟨a,b,xs,ys,signs,mates,rfl,ha,hb,ls,lm,so,mo,nd,hl,q⟩:=h
  have hu:=Co hr
  have hu64:=hr.units
  refine ⟨_,(Be (Bt (i:=2) sc_qq.nd rfl (Or.inl rfl) Jx)
   (Be (Dm PassesOwn.leaving rfl (Dh (pv 0)) (Nn rfl (Cm (By (i:=3) sc_qq.nd rfl (Or.inl rfl)) (Cm (By (i:=4) sc_qq.nd rfl (Or.inl rfl)) (Cm (By (i:=5) sc_qq.nd rfl (Or.inl rfl)) Gd))))
    (Be (Cl (Bo (Gp T) (hr.mono (by decide)) rfl T.m_qc T.F_qc.kp (Jy T) .nil Bs (Ba (Bo (AjQ T) (hr.mono (by decide)) rfl T.m_qf T.F_qf.kp (AkZ T) .nil Bs (Ba (pv 4) Bb)) (Ba Bu Bb))))
   (Be (Cl (Bo (Gp T) (hr.mono (by decide)) rfl T.m_qc T.F_qc.kp (Jy T) .nil Bs (Ba (Bo (AjY T) (hr.mono (by decide)) rfl T.m_qo T.F_qo.kp (AkB T) .nil Bs (Ba (pv 4) (Ba (pv 5) Bb))) (Ba Bu Bb))))
   (Bh (Cl (Bo (Zv T) (hr.mono (by decide)) rfl T.m_qbi T.F_qbi.kp (Abm T) .nil Bs (Ba (pv 2) (Ba (pv 3) (Ba (pv 4) Bb)))))))))
   (Be (Dm PassesOwn.leaving rfl (Dh (pv 1)) (Nn rfl (Cm (By (i:=6) sc_qq.nd rfl (Or.inl rfl)) (Cm (By (i:=7) sc_qq.nd rfl (Or.inl rfl)) Gd)))
    (Be (Cl (Bo (Zv T) (hr.mono (by decide)) rfl T.m_qbi T.F_qbi.kp (Abm T) .nil Bs (Ba (pv 2) (Ba (pv 6) (Ba Bu Bb)))))
   (Bh (Cl (Bo (Zv T) (hr.mono (by decide)) rfl T.m_qbi T.F_qbi.kp (Abm T) .nil Bs (Ba (pv 2) (Ba (pv 7) (Ba Bu Bb))))))))
   (Bh (Cc (pv 2)))))),?_⟩
  try dsimp only [Cg,Bw]
  walk_at "rd"
  intro d hd
  walk_at "rd"
  have nda:a ≠ d:=Bn ha hd
  have ndb:b ≠ d:=Bn hb hd
  have ndk:((kK signs ++ kM mates).map (·.1)).Nodup:=by rw [List.map_append,AaK,show (kK signs).map (·.1) = (signs.map (·.1)).map Sum.inl by simp [kK],<- List.map_append]; exact Lf nd
  refine Oq rfl (SqL.of (xs:=xs) (by rw [Bg nda]; exact ha)) (fun i σ H'=>∃ v3 v4 v5,σ = [some (.ref a),some (.ref b),some (.ref d),v3,v4,v5,none,none]/\H' = upd H d (.dK (kK (signs.take i)))) ⟨none,none,none,rfl,rfl⟩ (fun i σ H' _ ⟨_,_,_,_,e⟩=>by subst e; exact SqL.of (by rw [Bg nda]; exact ha)) ?_ ?_
  ·rintro i x σ H' hi ⟨v3,v4,v5,rfl,rfl⟩
   obtain ⟨s,es,p,rfl,hp⟩:=ls.get hi
   have hp':(upd H d (.dK (kK (signs.take i)))) p = some (.tup [.int s.1,.str s.2.1,.int s.2.2]):=by rw [Bg (Bn hp hd)]; exact hp
   have hd':(upd H d (.dK (kK (signs.take i)))) d = some (.dK (kK (signs.take i))):=Bk
   have ok:=so s (List.mem_of_getElem? es)
   have et:=Dj es
   have hlt:i < signs.length:=(List.getElem?_eq_some_iff.mp es).1
   walk_at "rd"
   ·refine ⟨_,_,_,rfl,?_⟩
    rw [Fx,et]
    simp [kK]
   ·exact ok.nn
   ·refine Je fun m=>?_
    have q1:(kK signs ++ kM mates) = kK (signs.take i) ++ ((Sum.inl s.1,V.str s.2.1) :: (kK (signs.drop (i + 1)) ++ kM mates)):=by
     rw [<- List.cons_append,<- List.append_assoc]
     congr 1
     rw [show ((Sum.inl s.1,V.str s.2.1) :: kK (signs.drop (i + 1)):List (Key × V)) = kK (s :: signs.drop (i + 1)) from rfl,kK,kK,kK,<- List.map_append]
     congr 1
     rw [<- List.take_append_drop i signs]
     congr 1
     ·simp
     ·rw [List.take_append_drop,List.drop_eq_getElem_cons hlt]
      have:=List.getElem?_eq_getElem hlt
      rw [es] at this
      rw [Option.some.inj this]
    rw [q1,List.map_append,List.map_cons] at ndk
    exact (List.nodup_append.mp ndk).2.2 _ m _ List.mem_cons_self rfl
   ·have:(kK (signs.take i)).length <= signs.length:=by simp [kK]; omega
    omega
   ·exact ok.rk
   ·exact ok.kd
  ·rintro σ H' ⟨v3,v4,v5,rfl,rfl⟩
   rw [ls.1,List.take_length]
   refine Abv ?_
   refine Oq rfl (SqL.of (xs:=ys) (by rw [Bg ndb]; exact hb)) (fun i σ H'=>∃ v3 v4 v5 v6 v7,σ = [some (.ref a),some (.ref b),some (.ref d),v3,v4,v5,v6,v7]/\H' = upd H d (.dK (kK signs ++ kM (mates.take i)))) ⟨_,_,_,_,_,rfl,by simp [kM]⟩ (fun i σ H' _ ⟨_,_,_,_,_,_,e⟩=>by subst e; exact SqL.of (by rw [Bg ndb]; exact hb)) ?_ ?_
   ·rintro i x σ H' hi ⟨v3,v4,v5,v6,v7,rfl,rfl⟩
    obtain ⟨m,em,p,rfl,hp⟩:=lm.get hi
    have hp':(upd H d (.dK (kK signs ++ kM (mates.take i)))) p = some (.tup [.int m.1,.int m.2]):=by rw [Bg (Bn hp hd)]; exact hp
    have hd':(upd H d (.dK (kK signs ++ kM (mates.take i)))) d = some (.dK (kK signs ++ kM (mates.take i))):=Bk
    have ok:=mo m (List.mem_of_getElem? em)
    have et:=Dj em
    have hlt:i < mates.length:=(List.getElem?_eq_some_iff.mp em).1
    have q1:kK signs ++ kM mates = kK signs ++ kM (mates.take i) ++ ((Sum.inl m.1,V.str "open") :: (Sum.inl m.2,V.str "shut") :: kM (mates.drop (i + 1))):=by
     rw [List.append_assoc]
     congr 1
     rw [show ((Sum.inl m.1,V.str "open") :: (Sum.inl m.2,V.str "shut") :: kM (mates.drop (i + 1)):List (Key × V)) = kM (m :: mates.drop (i + 1)) from rfl,<- Wf]
     congr 1
     have:=List.getElem?_eq_getElem hlt
     rw [em] at this
     rw [Option.some.inj this,<- List.drop_eq_getElem_cons hlt,List.take_append_drop]
    rw [q1,List.map_append,List.map_cons,List.map_cons] at ndk
    have nd1:=(List.nodup_append.mp ndk).2.2
    have nd2:=(List.nodup_append.mp ndk).2.1
    have hlen:(kK signs ++ kM (mates.take i)).length + 1 <= 1000:=by
     rw [List.length_append,Ah3,List.length_take]; simp only [kK,List.length_map]; omega
    walk_at "rd"
    have hd2:(upd (upd H d (.dK (kK signs ++ kM (mates.take i)))) d (.dK (kK signs ++ kM (mates.take i) ++ [(Sum.inl m.1,.str "open")]))) d = some (.dK (kK signs ++ kM (mates.take i) ++ [(Sum.inl m.1,.str "open")])):=Bk
    walk_at "rd"
    ·refine ⟨_,_,_,_,_,rfl,?_⟩
     rw [Fx,Fx,et,Wf]
     simp [kM]
    ·exact ok.2
    ·refine Je fun z=>?_
     rw [List.map_append,List.mem_append] at z
     rcases z with z | z
     ·exact nd1 _ z _ (List.mem_cons_of_mem _ List.mem_cons_self) rfl
     ·have e:(Sum.inl m.2:Key) = Sum.inl m.1:=List.mem_singleton.mp z
      have nd3:=(List.nodup_cons.mp nd2).1
      exact nd3 (List.mem_cons.mpr (.inl e.symm))
    ·rw [List.length_append]; exact hlen
    ·exact ok.1
    ·exact Je fun z=>nd1 _ z _ List.mem_cons_self rfl
    ·omega
   ·rintro σ H' ⟨v3,v4,v5,v6,v7,rfl,rfl⟩
    rw [lm.1,List.take_length]
    walk_at "rd"
    exact q d hd
def Aed:Sp:=fun vs H Q _=>∃ a xs signs,vs = [.ref a]/\H a = some (.lst xs)/\LAt TripAt H xs signs/\(signs.map (·.1)).Nodup/\signs.length <= 900/\∀ d,H d = none->Q (.ref d) (upd H d (.dK (kR signs)))
theorem AkY (T:Txt K mg t):Binds K t.d_qt ["signs"] []:=T.F_qt.binds (ps:=["signs"]) fun _ _ _ _ _ _ us hl=>match us,hl with | [_],_=>rfl
theorem AjN (T:Txt K mg t):FnOk P w K mg base (CX1 P w) 1 t.f_qt t.d_qt ["signs"] (Aed):=by
 refine T.F_qt.ok1 sc_qt (fun vs H Q E h=>?_) (fun cdv A outer s H vs Q E hr h=>?_)
 ·obtain ⟨a,xs,signs,rfl,ha,ls,nd,hl,q⟩:=h
  rfl
 ·obtain ⟨a,xs,signs,rfl,ha,ls,nd,hl,q⟩:=h
  have hu:=Co hr
  have hu64:=hr.units
  refine ⟨_,(Be (Bt (i:=1) sc_qt.nd rfl (Or.inl rfl) Jx)
   (Be (Dm PassesOwn.leaving rfl (Dh (pv 0)) (Nn rfl (Cm (By (i:=2) sc_qt.nd rfl (Or.inl rfl)) (Cm (By (i:=3) sc_qt.nd rfl (Or.inl rfl)) (Cm (By (i:=4) sc_qt.nd rfl (Or.inl rfl)) Gd))))
    (Bh (Gn hu (pv 1) (pv 2) (pv 4) rfl)))
   (Bh (Cc (pv 1))))),?_⟩
  try dsimp only [Cg,Bw]
  walk_at "rd"
  intro d hd
  walk_at "rd"
  have nda:a ≠ d:=Bn ha hd
  have ndk:((kR signs).map (·.1)).Nodup:=by rw [show (kR signs).map (·.1) = (signs.map (·.1)).map Sum.inl by simp [kR]]; exact Lf nd
  refine Oq rfl (SqL.of (xs:=xs) (by rw [Bg nda]; exact ha)) (fun i σ H'=>∃ v3 v4 v5,σ = [some (.ref a),some (.ref d),v3,v4,v5]/\H' = upd H d (.dK (kR (signs.take i)))) ⟨none,none,none,rfl,rfl⟩ (fun i σ H' _ ⟨_,_,_,_,e⟩=>by subst e; exact SqL.of (by rw [Bg nda]; exact ha)) ?_ ?_
  ·rintro i x σ H' hi ⟨v3,v4,v5,rfl,rfl⟩
   obtain ⟨s,es,p,rfl,hp⟩:=ls.get hi
   have hp':(upd H d (.dK (kR (signs.take i)))) p = some (.tup [.int s.1,.str s.2.1,.int s.2.2]):=by rw [Bg (Bn hp hd)]; exact hp
   have hd':(upd H d (.dK (kR (signs.take i)))) d = some (.dK (kR (signs.take i))):=Bk
   have et:=Dj es
   have hlt:i < signs.length:=(List.getElem?_eq_some_iff.mp es).1
   have hno:Cd (kR (signs.take i)) (Sum.inl s.1) = none:=by
    refine Je fun m=>?_
    have q1:kR signs = kR (signs.take i) ++ ((Sum.inl s.1,V.int s.2.2) :: kR (signs.drop (i + 1))):=by
     rw [show ((Sum.inl s.1,V.int s.2.2) :: kR (signs.drop (i + 1)):List (Key × V)) = kR (s :: signs.drop (i + 1)) from rfl,kR,kR,kR,<- List.map_append]
     congr 1
     have:=List.getElem?_eq_getElem hlt
     rw [es] at this
     rw [Option.some.inj this,<- List.drop_eq_getElem_cons hlt,List.take_append_drop]
    rw [q1,List.map_append,List.map_cons] at ndk
    exact (List.nodup_append.mp ndk).2.2 _ m _ List.mem_cons_self rfl
   walk_at "rd"
   ·refine ⟨_,_,_,rfl,?_⟩
    rw [Fx,et,Jw _ hno]
    simp [kR]
   ·have:(kR (signs.take i)).length <= signs.length:=by simp [kR]; omega
    exact Fh (by omega)
  ·rintro σ H' ⟨v3,v4,v5,rfl,rfl⟩
   rw [ls.1,List.take_length]
   walk_at "rd"
   exact q d hd
def AgK:Sp:=fun vs H Q _=>∃ b ys mates,vs = [.ref b]/\H b = some (.lst ys)/\LAt PairAt H ys mates/\(ends mates).Nodup/\mates.length <= 400/\∀ d,H d = none->Q (.ref d) (upd H d (.dK (kB mates)))
theorem Akz (T:Txt K mg t):Binds K t.d_qy ["mates"] []:=T.F_qy.binds (ps:=["mates"]) fun _ _ _ _ _ _ us hl=>match us,hl with | [_],_=>rfl
theorem Akm (T:Txt K mg t):FnOk P w K mg base (CX1 P w) 1 t.f_qy t.d_qy ["mates"] (AgK):=by
 refine T.F_qy.ok1 sc_qy (fun vs H Q E h=>?_) (fun cdv A outer s H vs Q E hr h=>?_)
 ·obtain ⟨b,ys,mates,rfl,hb,lm,nd,hl,q⟩:=h
  rfl
 ·obtain ⟨b,ys,mates,rfl,hb,lm,nd,hl,q⟩:=h
  have hu:=Co hr
  have hu64:=hr.units
  refine ⟨_,(Be (Bt (i:=1) sc_qy.nd rfl (Or.inl rfl) Jx)
   (Be (Dm PassesOwn.leaving rfl (Dh (pv 0)) (Nn rfl (Cm (By (i:=2) sc_qy.nd rfl (Or.inl rfl)) (Cm (By (i:=3) sc_qy.nd rfl (Or.inl rfl)) Gd)))
    (Be (Gn hu (pv 1) (pv 2) (pv 3) rfl)
   (Bh (Gn hu (pv 1) (pv 3) (pv 2) rfl))))
   (Bh (Cc (pv 1))))),?_⟩
  try dsimp only [Cg,Bw]
  walk_at "rd"
  intro d hd
  walk_at "rd"
  have ndb:b ≠ d:=Bn hb hd
  have ndk:((kB mates).map (·.1)).Nodup:=by rw [AgF]; exact Lf nd
  refine Oq rfl (SqL.of (xs:=ys) (by rw [Bg ndb]; exact hb)) (fun i σ H'=>∃ v3 v4,σ = [some (.ref b),some (.ref d),v3,v4]/\H' = upd H d (.dK (kB (mates.take i)))) ⟨none,none,rfl,rfl⟩ (fun i σ H' _ ⟨_,_,_,e⟩=>by subst e; exact SqL.of (by rw [Bg ndb]; exact hb)) ?_ ?_
  ·rintro i x σ H' hi ⟨v3,v4,rfl,rfl⟩
   obtain ⟨m,em,p,rfl,hp⟩:=lm.get hi
   have hp':(upd H d (.dK (kB (mates.take i)))) p = some (.tup [.int m.1,.int m.2]):=by rw [Bg (Bn hp hd)]; exact hp
   have hd':(upd H d (.dK (kB (mates.take i)))) d = some (.dK (kB (mates.take i))):=Bk
   have et:=Dj em
   have hlt:i < mates.length:=(List.getElem?_eq_some_iff.mp em).1
   have q1:kB mates = kB (mates.take i) ++ ((Sum.inl m.1,V.int m.2) :: (Sum.inl m.2,V.int m.1) :: kB (mates.drop (i + 1))):=by
    rw [show ((Sum.inl m.1,V.int m.2) :: (Sum.inl m.2,V.int m.1) :: kB (mates.drop (i + 1)):List (Key × V)) = kB (m :: mates.drop (i + 1)) from rfl,<- We]
    congr 1
    have:=List.getElem?_eq_getElem hlt
    rw [em] at this
    rw [Option.some.inj this,<- List.drop_eq_getElem_cons hlt,List.take_append_drop]
   rw [q1,List.map_append,List.map_cons,List.map_cons] at ndk
   have nd1:=(List.nodup_append.mp ndk).2.2
   have nd2:=(List.nodup_append.mp ndk).2.1
   have hlen:(kB (mates.take i)).length + 1 <= 1000:=by
    rw [Ahk,List.length_take]; omega
   have n1:Cd (kB (mates.take i)) (Sum.inl m.1) = none:=Je fun z=>nd1 _ z _ List.mem_cons_self rfl
   have n2:Cd (kB (mates.take i) ++ [(Sum.inl m.1,V.int m.2)]) (Sum.inl m.2) = none:=by
    refine Je fun z=>?_
    rw [List.map_append,List.mem_append] at z
    rcases z with z | z
    ·exact nd1 _ z _ (List.mem_cons_of_mem _ List.mem_cons_self) rfl
    ·have e:(Sum.inl m.2:Key) = Sum.inl m.1:=List.mem_singleton.mp z
     have nd3:=(List.nodup_cons.mp nd2).1
     exact nd3 (List.mem_cons.mpr (.inl e.symm))
   walk_at "rd"
   ·rw [Jw _ n1]
    have hd2:(upd (upd H d (.dK (kB (mates.take i)))) d (.dK (kB (mates.take i) ++ [(Sum.inl m.1,.int m.2)]))) d = some (.dK (kB (mates.take i) ++ [(Sum.inl m.1,.int m.2)])):=Bk
    walk_at "rd"
    ·refine ⟨_,_,rfl,?_⟩
     rw [Fx,Fx,et,We,Jw _ n2]
     simp [kB]
    ·rw [List.length_append]; exact Fh hlen
   ·exact Fh (by omega)
  ·rintro σ H' ⟨v3,v4,rfl,rfl⟩
   rw [lm.1,List.take_length]
   walk_at "rd"
   exact q d hd
theorem AcM {k:Str} (h:k ∈ joinedK):inV (V.str k) [V.str "fore",V.str "back",V.str "num",V.str "blank",V.str "plain"] = true:=by
 have e:inV (V.str k) (joinedK.map V.str) = true:=by
  unfold inV
  rw [List.any_map]
  exact List.any_eq_true.mpr ⟨k,h,by show (k == k) = true; exact beq_self_eq_true k⟩
 exact e
def Agq:Sp:=fun vs H Q _=>∃ d kk w b m k,vs = [.ref d,.int w,.int b,.int m]/\H d = some (.dK kk)/\0 <= w/\0 <= b/\0 <= m/\knd kk m = .str "mark"/\k ∈ joinedK/\knd kk w = .str k/\knd kk b = .str k/\Q .non H
theorem AkQ (T:Txt K mg t):Binds K t.d_qn ["kinds","whole","base","mark"] []:=T.F_qn.binds (ps:=["kinds","whole","base","mark"]) fun _ _ _ _ _ _ us hl=>match us,hl with | [_,_,_,_],_=>rfl
theorem Akw (T:Txt K mg t):FnOk P w K mg base (CX1 P w) 3 t.f_qn t.d_qn ["kinds","whole","base","mark"] (Agq):=by
 refine T.F_qn.ok1 sc_qn (fun vs H Q E h=>?_) (fun cdv A outer s H vs Q E hr h=>?_)
 ·obtain ⟨d,kk,w,b,m,k,rfl,hd,w0,b0,m0,hm,hk,hw,hb,q⟩:=h
  rfl
 ·obtain ⟨d,kk,w,b,m,k,rfl,hd,w0,b0,m0,hm,hk,hw,hb,q⟩:=h
  have hu:=Co hr
  have hu64:=hr.units
  refine ⟨_,(Be (Cl (Bo (Gp T) (hr.mono (by decide)) rfl T.m_qc T.F_qc.kp (Jy T) .nil Bs (Ba (Le (Bo (Ut T) (hr.mono (by decide)) rfl T.m_qbk T.F_qbk.kp (Xh T) .nil Bs (Ba (pv 1) Bb)) (Le (Bo (Ut T) (hr.mono (by decide)) rfl T.m_qbk T.F_qbk.kp (Xh T) .nil Bs (Ba (pv 2) Bb)) (Ni (Bo (Ut T) (hr.mono (by decide)) rfl T.m_qbk T.F_qbk.kp (Xh T) .nil Bs (Ba (pv 3) Bb))))) (Ba Bu Bb))))
   (Be (Cl (Bo (Gp T) (hr.mono (by decide)) rfl T.m_qc T.F_qc.kp (Jy T) .nil Bs (Ba (Gc Fr (Bo (Xi T) (hr.mono (by decide)) rfl T.m_qp T.F_qp.kp (Abx T) .nil Bs (Ba (pv 0) (Ba (pv 3) Bb))) Bu (Ci _)) (Ba Bu Bb))))
   (Be (Bt (i:=4) sc_qn.nd rfl (Or.inl rfl) (Bo (Xi T) (hr.mono (by decide)) rfl T.m_qp T.F_qp.kp (Abx T) .nil Bs (Ba (pv 0) (Ba (pv 1) Bb))))
   (Be (Cl (Bo (Gp T) (hr.mono (by decide)) rfl T.m_qc T.F_qc.kp (Jy T) .nil Bs (Ba (Gc (Wc) (pv 4) (Ji (v:=.ref t.a_JOINED_KINDS) rfl T.g_JOINED_KINDS rfl) rfl) (Ba Bu Bb))))
   (Bh (Cl (Bo (Gp T) (hr.mono (by decide)) rfl T.m_qc T.F_qc.kp (Jy T) .nil Bs (Ba (Gc Fr (Bo (Xi T) (hr.mono (by decide)) rfl T.m_qp T.F_qp.kp (Abx T) .nil Bs (Ba (pv 0) (Ba (pv 2) Bb))) (pv 4) (Ci _)) (Ba Bu Bb))))))))),?_⟩
  try dsimp only [Cg,Bw]
  unfold knd at hm hw hb
  walk_at "rd"
  refine Aij w0 ?_
  walk_at "rd"
  refine Aij b0 ?_
  walk_at "rd"
  ·rw [hm]
   walk_at "rd"
   ·rw [hw]
    walk_at "rd"
    refine ⟨_,_,rfl,.inr (T.q_JOINED_KINDS _),rfl,rfl,?_⟩
    rw [show (if false = true then !inV (V.str k) _ else inV (V.str k) [V.str "fore",V.str "back",V.str "num",V.str "blank",V.str "plain"]) = true from AcM hk]
    walk_at "rd"
    rw [hb]
    walk_at "rd"
    ·exact q
    ·exact decide_eq_true rfl
   ·exact decide_eq_true rfl
  ·exact decide_eq_true m0
def Agx:Sp:=fun vs H Q _=>∃ d kvs J n,vs = [.ref d,.int n]/\Rd H d (.dK kvs)/\LAt KvAt H kvs J/\Q (.bl (!(Ce J (jGo J 7 n)).isSome)) H
theorem AkM (T:Txt K mg t):Binds K t.d_qe ["pairs","whole"] []:=T.F_qe.binds (ps:=["pairs","whole"]) fun _ _ _ _ _ _ us hl=>match us,hl with | [_,_],_=>rfl
theorem Akg (T:Txt K mg t):FnOk P w K mg base (CX1 P w) 1 t.f_qe t.d_qe ["pairs","whole"] (Agx):=by
 refine T.F_qe.ok1 sc_qe (fun vs H Q E h=>?_) (fun cdv A outer s H vs Q E hr h=>?_)
 ·obtain ⟨d,kvs,J,n,rfl,hd,lj,q⟩:=h
  rfl
 ·obtain ⟨d,kvs,J,n,rfl,hd,lj,q⟩:=h
  have hu:=Co hr
  have hu64:=hr.units
  refine ⟨_,(Be (Bt (i:=2) sc_qe.nd rfl (Or.inl rfl) (pv 1))
   (Be (Dm PassesOwn.leaving rfl (Lg rfl T.z_range (Ba (Ji rfl T.g_MOST_GOINGS.choose_spec.1 T.g_MOST_GOINGS.choose_spec.2) Bb)) (By (i:=3) sc_qe.nd rfl (Or.inl rfl))
    (Bh (Di (Rp (Ys hu (pv 2) (pv 0)))
    (Bh (Bt (i:=2) sc_qe.nd rfl (Or.inl rfl) (Cb (Rs) (Nc hu (pv 0) (pv 2) (fun _ _=>rfl)) Bf (fun _ _=>rfl))))
    Cw)))
   (Bh (Cc (Vh (Oa hu (pv 2) (pv 0))))))),?_⟩
  try dsimp only [Cg,Bw]
  walk_at "rd"
  refine Tf (hi:=7) (n:=7) (fun R q'=>by walk_at "rd"; exact q') ⟨by decide,by decide⟩ rfl (fun i σ H'=>∃ v3,σ = [some (.ref d),some (.int n),some (.int (jGo J i n)),v3]/\H' = H) ⟨none,rfl,rfl⟩ ?_ ?_
  ·rintro i σ H' hi ⟨v3,rfl,rfl⟩
   walk_at "rd"
   refine ⟨d,_,rfl,.inl ⟨kvs,Sum.inl (jGo J i n),hd,rfl,rfl⟩,?_⟩
   walk_at "rd"
   rcases Vd lj (jGo J i n) with ⟨h1,h2⟩ | ⟨m,p,h1,h2,hp⟩
   ·rw [h2]
    refine Nt ?_
    walk_at "rd"
    exact ⟨_,by show _ = [_,_,some (V.int (Fb J (jGo J i n))),_]; unfold Fb; rw [h1],rfl⟩
   ·rw [h2]
    refine Lh ?_
    walk_at "rd"
    refine ⟨d,.ref p,rfl,.inl ⟨kvs,Sum.inl (jGo J i n),hd,rfl,h2.symm⟩,?_⟩
    walk_at "rd"
    refine Tc hp ?_ rfl
    walk_at "rd"
    exact ⟨_,by show _ = [_,_,some (V.int (Fb J (jGo J i n))),_]; unfold Fb; rw [h1],rfl⟩
  ·rintro σ H' ⟨v3,rfl,rfl⟩
   walk_at "rd"
   refine ⟨d,_,rfl,.inl ⟨kvs,Sum.inl (jGo J 7 n),hd,rfl,rfl⟩,?_⟩
   rcases Vd lj (jGo J 7 n) with ⟨h1,h2⟩ | ⟨m,p,h1,h2,hp⟩
   ·rw [h2]; rw [h1] at q; exact q
   ·rw [h2]; rw [h1] at q; exact q
def AeN:Sp:=fun vs H Q _=>∃ d b kk xs J,vs = [.ref d,.ref b]/\H d = some (.dK kk)/\H b = some (.lst xs)/\LAt TrjAt H xs J/\AbH kk J/\∀ p kvs H',H p = none->Same H H'->H' p = some (.dK kvs)->LAt KvAt H' kvs J->Q (.ref p) H'
theorem AkI (T:Txt K mg t):Binds K t.d_qs ["kinds","joins"] []:=T.F_qs.binds (ps:=["kinds","joins"]) fun _ _ _ _ _ _ us hl=>match us,hl with | [_,_],_=>rfl
theorem Akv (T:Txt K mg t):FnOk P w K mg base (CX1 P w) 4 t.f_qs t.d_qs ["kinds","joins"] (AeN):=by
 refine T.F_qs.ok1 sc_qs (fun vs H Q E h=>?_) (fun cdv A outer s H vs Q E hr h=>?_)
 ·obtain ⟨d,b,kk,xs,J,rfl,hd,hb,lj,jo,q⟩:=h
  rfl
 ·obtain ⟨d,b,kk,xs,J,rfl,hd,hb,lj,jo,q⟩:=h
  have hu:=Co hr
  have hu64:=hr.units
  refine ⟨_,(Be (Bt (i:=2) sc_qs.nd rfl (Or.inl rfl) Jx)
   (Be (Dm PassesOwn.leaving rfl (Dh (pv 1)) (Nn rfl (Cm (By (i:=3) sc_qs.nd rfl (Or.inl rfl)) (Cm (By (i:=4) sc_qs.nd rfl (Or.inl rfl)) (Cm (By (i:=5) sc_qs.nd rfl (Or.inl rfl)) Gd))))
    (Be (Cl (Bo (Akw T) (hr.mono (by decide)) rfl T.m_qn T.F_qn.kp (AkQ T) .nil Bs (Ba (pv 0) (Ba (pv 3) (Ba (pv 4) (Ba (pv 5) Bb))))))
   (Be (Cl (Bo (Gp T) (hr.mono (by decide)) rfl T.m_qc T.F_qc.kp (Jy T) .nil Bs (Ba (Vh (Oa hu (pv 3) (pv 2))) (Ba Bu Bb))))
   (Bh (Gn hu (pv 2) (pv 3) (Acu (Ba (pv 4) (Ba (pv 5) Bb))) rfl)))))
   (Be (AdJ (Dm PassesOwn.leaving rfl (AeT (pv 2)) (By (i:=3) sc_qs.nd rfl (Or.inl rfl))
    (Bh (Cl (Bo (Gp T) (hr.mono (by decide)) rfl T.m_qc T.F_qc.kp (Jy T) .nil Bs (Ba (Bo (Akg T) (hr.mono (by decide)) rfl T.m_qe T.F_qe.kp (AkM T) .nil Bs (Ba (pv 2) (Ba (pv 3) Bb))) (Ba Bu Bb)))))))
   (Bh (Cc (pv 2)))))),?_⟩
  try dsimp only [Cg,Bw]
  walk_at "rd"
  intro p hp
  have s0:Same H (upd H p (.dK [])):=Same.new hp
  have e0:(upd H p (.dK [])) p = some (.dK []):=Bk
  generalize upd H p (.dK []) = H0 at s0 e0
  walk_at "rd"
  refine Oq (i:=1) rfl (SqL.of (s0 _ _ hb)) (fun i σ H'=>∃ v3 v4 v5 kvs,σ = [some (.ref d),some (.ref b),some (.ref p),v3,v4,v5]/\Same H H'/\H' p = some (.dK kvs)/\LAt KvAt H' kvs (J.take i)) ⟨none,none,none,[],rfl,s0,e0,LAt.nil⟩ (fun i σ H' _ ⟨_,_,_,_,_,s,_⟩=>SqL.of (s _ _ hb)) ?_ ?_
  ·rintro i x σ H' hi ⟨v3,v4,v5,kvs,rfl,s,e,lk⟩
   obtain ⟨j,ej,a,rfl,ha⟩:=lj.get hi
   have hj:=List.mem_of_getElem? ej
   have ha':=s _ _ ha
   obtain ⟨k,hk,hw,hb'⟩:=jo.kd j hj
   obtain ⟨n1,n2,n3⟩:=jo.nn j hj
   have hlen:kvs.length <= 400:=by
    rw [lk.1,List.length_take]
    have:=jo.ln
    omega
   have hno:Cd kvs (Sum.inl j.1) = none:=by
    rcases Vd lk j.1 with ⟨_,h2⟩ | ⟨m,_,h1,_,_⟩
    ·exact h2
    ·exact absurd (show j.1 ∈ (J.take i).map (·.1) from List.mem_map.mpr ⟨_,Go h1,rfl⟩) (Jp (f:=(·.1)) jo.nw ej)
   walk_at "rd"
   refine ⟨d,kk,j.1,j.2.1,j.2.2,k,rfl,s _ _ hd,n1,n2,n3,jo.mr j hj,hk,hw,hb',?_⟩
   walk_at "rd"
   ·refine ⟨by show 2 <= sizeLine; decide,fun t ht=>?_⟩
    walk_at "rd"
    refine Aca (Same.new ht _ _ e) ?_ (Fh (by omega))
    rw [Jw _ hno]
    have ntp:t ≠ p:=(Bn e ht).symm
    have kt:∀ q' zs,H' q' = some (.tup zs)->(upd (upd H' t (.tup [.int j.2.1,.int j.2.2])) p (.dK (kvs ++ [(Sum.inl j.1,V.ref t)]))) q' = some (.tup zs):=fun q' zs z=>by
     rw [Bg (Df z e (by intro w; cases w)),Bg (Bn z ht)]; exact z
    refine ⟨_,_,_,_,rfl,fun q' o z=>?_,Bk,?_⟩
    ·rw [Bg (Bn z hp),Bg (Bn (s _ _ z) ht)]; exact s _ _ z
    ·rw [Dj ej]
     exact LAt.snoc (lk.mono fun x y h=>h.mono kt) ⟨rfl,t,rfl,by rw [Bg ntp,Bk]⟩
   ·rw [hno]; rfl
  ·rintro σ H' ⟨v3,v4,v5,kvs,rfl,s,e,lk⟩
   rw [lj.1,List.take_length] at lk
   dsimp only
   with_reducible refine Abv ?_
   refine AhF (i:=2) (a:=p) (kvs:=kvs) rfl e (fun i σ H''=>∃ v3 v4 v5,σ = [some (.ref d),some (.ref b),some (.ref p),v3,v4,v5]/\H'' = H') ⟨_,_,_,rfl,rfl⟩ (fun i σ H' _ ⟨_,_,_,_,z⟩=>by subst z; exact e) ?_ ?_
   ·rintro o i kv σ H'' hi ⟨v3,v4,v5,rfl,rfl⟩
    obtain ⟨j,ej,e1,_⟩:=lk.get hi
    have hj:=List.mem_of_getElem? ej
    obtain ⟨key,val⟩:=kv
    dsimp only at e1
    subst e1
    show Lo _ (.int j.1) _ _ _
    walk_at "rd"
    refine ⟨p,kvs,J,j.1,rfl,Ai9,lk.mono fun x y h=>h.mono fun q' zs z=>?_,?_⟩
    ·rw [Bg (Df z e (by intro w; cases w))]; exact z
    ·walk_at "rd"
     ·exact ⟨Bk,_,_,_,rfl,Aek e⟩
     ·rw [jo.en j hj]; rfl
   ·rintro σ H'' ⟨v3,v4,v5,rfl,rfl⟩
    walk_at "rd"
    exact q p kvs _ hp s e lk
def Ack:Sp:=fun vs H Q _=>∃ d kvs J,vs = [.ref d]/\H d = some (.dK kvs)/\LAt KvAt H kvs J/\(J.map (·.2)).Nodup/\J.length <= 400/\∀ p H',H p = none->Same H H'->H' p = some (.dT (kW J))->Q (.ref p) H'
theorem AkX (T:Txt K mg t):Binds K t.d_ql ["pairs"] []:=T.F_ql.binds (ps:=["pairs"]) fun _ _ _ _ _ _ us hl=>match us,hl with | [_],_=>rfl
theorem Akk (T:Txt K mg t):FnOk P w K mg base (CX1 P w) 2 t.f_ql t.d_ql ["pairs"] (Ack):=by
 refine T.F_ql.ok1 sc_ql (fun vs H Q E h=>?_) (fun cdv A outer s H vs Q E hr h=>?_)
 ·obtain ⟨d,kvs,J,rfl,hd,lk,np,ln,q⟩:=h
  rfl
 ·obtain ⟨d,kvs,J,rfl,hd,lk,np,ln,q⟩:=h
  have hu:=Co hr
  have hu64:=hr.units
  refine ⟨_,(Be (Bt (i:=1) sc_ql.nd rfl (Or.inl rfl) Yi)
   (Be (AdJ (Dm PassesOwn.leaving rfl (AcO (pv 0)) (Nn rfl (Cm (By (i:=2) sc_ql.nd rfl (Or.inl rfl)) (Cm (By (i:=3) sc_ql.nd rfl (Or.inl rfl)) Gd)))
    (Be (Cl (Bo (Gp T) (hr.mono (by decide)) rfl T.m_qc T.F_qc.kp (Jy T) .nil Bs (Ba (Vh (Oa hu (pv 3) (pv 1))) (Ba Bu Bb))))
   (Bh (Gn hu (pv 1) (pv 3) (pv 2) rfl)))))
   (Bh (Cc (pv 1))))),?_⟩
  try dsimp only [Cg,Bw]
  walk_at "rd"
  intro p hp
  have s0:Same H (upd H p (.dT [])):=Same.new hp
  have e0:(upd H p (.dT [])) p = some (.dT []):=Bk
  generalize upd H p (.dT []) = H0 at s0 e0
  have ndp:d ≠ p:=Bn hd hp
  walk_at "rd"
  refine Ahs (i:=0) (a:=d) (kvs:=kvs) rfl (s0 _ _ hd) (fun i σ H'=>∃ v2 v3,σ = [some (.ref d),some (.ref p),v2,v3]/\Same H H'/\H' p = some (.dT (kW (J.take i)))) ⟨none,none,rfl,s0,e0⟩ ?_ ?_
  ·rintro o i kv t σ H' hi ht ntd ⟨v2,v3,rfl,s,e⟩
   obtain ⟨j,ej,e1,a,e2,ha⟩:=lk.get hi
   obtain ⟨key,val⟩:=kv
   dsimp only at e1 e2
   subst e1 e2
   have ntp:p ≠ t:=Bn e ht
   have had:a ≠ d:=Df ha hd (by intro w; cases w)
   have hat:a ≠ t:=Bn (s _ _ ha) ht
   have hap:a ≠ p:=Bn ha hp
   have ep:(upd (upd H' d (.frz o (.dK kvs))) t (.tup [.int j.1,.ref a])) p = some (.dT (kW (J.take i))):=by rw [Bg ntp,Bg ndp.symm]; exact e
   have ea:(upd (upd H' d (.frz o (.dK kvs))) t (.tup [.int j.1,.ref a])) a = some (.tup ([Sum.inl j.2.1,Sum.inl j.2.2].map kV)):=by rw [Bg hat,Bg had]; exact s _ _ ha
   have et:(upd (upd H' d (.frz o (.dK kvs))) t (.tup [.int j.1,.ref a])) t = some (.tup [.int j.1,.ref a]):=Bk
   have ed:(upd (upd H' d (.frz o (.dK kvs))) t (.tup [.int j.1,.ref a])) d = some (.frz o (.dK kvs)):=by rw [Bg ntd.symm,Bk]
   have back:∀ q' u,H q' = some u->q' ≠ d->(upd (upd H' d (.frz o (.dK kvs))) t (.tup [.int j.1,.ref a])) q' = some u:=fun q' u z nz=>by
    rw [Bg (Bn (s _ _ z) ht),Bg nz]; exact s _ _ z
   show Zj _ _ _ _ _ (upd (upd H' d (.frz o (.dK kvs))) t (.tup [.int j.1,.ref a])) _
   generalize upd (upd H' d (.frz o (.dK kvs))) t (.tup [.int j.1,.ref a]) = H2 at ep ea et ed back
   have hno:Cd (kW (J.take i)) [Sum.inl j.2.1,Sum.inl j.2.2] = none:=AjP (Jp (f:=(·.2)) np ej)
   have hlen:(kW (J.take i)).length <= 400:=by unfold kW; rw [List.length_map,List.length_take]; omega
   walk_at "rd"
   refine ⟨p,_,rfl,DGet.t ep ea,?_⟩
   rw [hno]
   walk_at "rd"
   rotate_left
   ·rfl
   refine ⟨p,_,rfl,DPut.t ep ea (Fh (by omega)),?_⟩
   rw [Jw _ hno]
   refine ⟨by rw [Bg ndp]; exact ed,_,_,rfl,fun q' u z=>?_,?_⟩
   ·by_cases hq:q' = d
    ·subst hq
     rw [Bk]
     rw [hd] at z; exact z
    ·rw [Bg hq,Bg (Bn z hp)]; exact back _ _ z hq
   ·rw [Bg ndp.symm,Bk,Dj ej]
    simp [kW]
  ·rintro σ H' ⟨v2,v3,rfl,s,e⟩
   rw [lk.1,List.take_length] at e
   walk_at "rd"
   exact q p _ hp s e
theorem Ak1 (T:Txt K mg t):Binds K t.d_qu ["self","signs","mates","joins"] []:=T.F_qu.binds (ps:=["self","signs","mates","joins"]) fun _ _ _ _ _ _ us hl=>match us,hl with | [_,_,_,_],_=>rfl
theorem Aju (T:Txt K mg t):FnOk P w K mg base (CX1 P w) 5 t.f_qu t.d_qu ["self","signs","mates","joins"] (AaH t.C_Book):=by
 refine T.F_qu.ok1 Ajx (fun vs H Q E h=>?_) (fun cdv A outer s H vs Q E hr h=>?_)
 ·obtain ⟨p,dx,a,b,cc,xs,ys,zs,signs,mates,J,rfl,hp,ha,hb,hc,ls,lm,lj,so,mo,nd,jo,hl,q⟩:=h
  rfl
 ·obtain ⟨p,dx,a,b,cc,xs,ys,zs,signs,mates,J,rfl,hp,ha,hb,hc,ls,lm,lj,so,mo,nd,jo,hl,q⟩:=h
  have hu:=Co hr
  have hu64:=hr.units
  refine ⟨_,(Be (Cl (Bo (Abu T) (hr.mono (by decide)) rfl T.m_qd T.F_qd.kp (AeY T) .nil Bs (Ba (pv 1) (Ba Bf Bb))))
   (Be (Cl (Bo (Abu T) (hr.mono (by decide)) rfl T.m_qd T.F_qd.kp (AeY T) .nil Bs (Ba (pv 2) (Ba Bf Bb))))
   (Be (Cl (Bo (Abu T) (hr.mono (by decide)) rfl T.m_qd T.F_qd.kp (AeY T) .nil Bs (Ba (pv 3) (Ba Bf Bb))))
   (Be (Rz (pv 0) (Bo (Aj3 T) (hr.mono (by decide)) rfl T.m_qq T.F_qq.kp (Ak3 T) .nil Bs (Ba (pv 1) (Ba (pv 2) Bb))) rfl)
   (Be (Rz (pv 0) (Bo (AjN T) (hr.mono (by decide)) rfl T.m_qt T.F_qt.kp (AkY T) .nil Bs (Ba (pv 1) Bb)) rfl)
   (Be (Rz (pv 0) (Bo (Akm T) (hr.mono (by decide)) rfl T.m_qy T.F_qy.kp (Akz T) .nil Bs (Ba (pv 2) Bb)) rfl)
   (Be (Rz (pv 0) (Bo (Akv T) (hr.mono (by decide)) rfl T.m_qs T.F_qs.kp (AkI T) .nil Bs (Ba (Op (pv 0) rfl) (Ba (pv 3) Bb))) rfl)
   (Bh (Rz (pv 0) (Bo (Akk T) (hr.mono (by decide)) rfl T.m_ql T.F_ql.kp (AkX T) .nil Bs (Ba (Op (pv 0) rfl) Bb)) rfl))))))))),?_⟩
  try dsimp only [Cg,Bw]
  have nt:∀ q' zs,H q' = some (.tup zs)->q' ≠ p:=fun q' zs h=>Df h hp (by intro z; cases z)
  have nap:a ≠ p:=Df ha hp (by intro z; cases z)
  have nbp:b ≠ p:=Df hb hp (by intro z; cases z)
  have ncp:cc ≠ p:=Df hc hp (by intro z; cases z)
  have c3:∀ x ∈ xs,∃ b ys,x = V.ref b/\H b = some (.tup ys)/\((ys.length:Nat):Int) = 3:=fun x hx=>by
   obtain ⟨i,hi⟩:=List.getElem?_of_mem hx
   obtain ⟨s,_,q',e,h⟩:=ls.get hi
   exact ⟨q',_,e,h,rfl⟩
  have c2:∀ x ∈ ys,∃ b ys,x = V.ref b/\H b = some (.tup ys)/\((ys.length:Nat):Int) = 2:=fun x hx=>by
   obtain ⟨i,hi⟩:=List.getElem?_of_mem hx
   obtain ⟨s,_,q',e,h⟩:=lm.get hi
   exact ⟨q',_,e,h,rfl⟩
  have c3j:∀ x ∈ zs,∃ b ys,x = V.ref b/\H b = some (.tup ys)/\((ys.length:Nat):Int) = 3:=fun x hx=>by
   obtain ⟨i,hi⟩:=List.getElem?_of_mem hx
   obtain ⟨s,_,q',e,h⟩:=lj.get hi
   exact ⟨q',_,e,h,rfl⟩
  have mJ:∀ {H'},Keep p H H'->LAt TrjAt H' zs J:=fun k=>lj.mono fun x y h=>h.mono fun q' zs e=>k q' _ e (nt q' zs e)
  have mT:∀ {H'},Keep p H H'->LAt TripAt H' xs signs:=fun k=>ls.mono fun x y h=>h.mono fun q' zs e=>k q' _ e (nt q' zs e)
  have mP:∀ {H'},Keep p H H'->LAt PairAt H' ys mates:=fun k=>lm.mono fun x y h=>h.mono fun q' zs e=>k q' _ e (nt q' zs e)
  have nd1:=(List.nodup_append.mp nd).1
  have nd2:=(List.nodup_append.mp nd).2.1
  walk_at "rd"
  refine ⟨a,xs,_,rfl,ha,c3,?_⟩
  walk_at "rd"
  refine ⟨b,ys,_,rfl,hb,c2,?_⟩
  walk_at "rd"
  refine ⟨cc,zs,_,rfl,hc,c3j,?_⟩
  walk_at "rd"
  refine ⟨a,b,xs,ys,signs,mates,rfl,ha,hb,ls,lm,so,mo,nd,by omega,fun dk hk=>?_⟩
  have fk:H dk = none:=hk
  walk_at "rd"
  have k1:Keep p H (upd H dk (.dK (kK signs ++ kM mates))):=Keep.new hk
  have p1:(upd H dk (.dK (kK signs ++ kM mates))) p = some (.ins t.C_Book dx []):=by rw [Bg (Bn hp hk)]; exact hp
  have e1:(upd H dk (.dK (kK signs ++ kM mates))) dk = some (.dK (kK signs ++ kM mates)):=Bk
  generalize upd H dk (.dK (kK signs ++ kM mates)) = H1 at k1 p1 e1
  refine ⟨p,_,_,_,rfl,p1,T.cl_Book,T.n_Book_kinds,by show 0 < 1000; decide,?_⟩
  have k2:Keep p H (upd H1 p (.ins t.C_Book dx (Br "kinds" (.ref dk) []))):=k1.trans Keep.put
  have p2:(upd H1 p (.ins t.C_Book dx (Br "kinds" (.ref dk) []))) p = some (.ins t.C_Book dx (Br "kinds" (.ref dk) [])):=Bk
  have e2:(upd H1 p (.ins t.C_Book dx (Br "kinds" (.ref dk) []))) dk = some (.dK (kK signs ++ kM mates)):=by rw [Bg (Df e1 p1 (by intro z; cases z))]; exact e1
  generalize upd H1 p (.ins t.C_Book dx (Br "kinds" (.ref dk) [])) = H2 at k2 p2 e2
  walk_at "rd"
  refine ⟨a,xs,signs,rfl,k2 _ _ ha nap,mT k2,nd1,by omega,fun dr hk=>?_⟩
  have fr':H dr = none:=k2.free p2 hk
  walk_at "rd"
  have k3:Keep p H (upd H2 dr (.dK (kR signs))):=k2.trans (Keep.new hk)
  have p3:(upd H2 dr (.dK (kR signs))) p = some (.ins t.C_Book dx (Br "kinds" (.ref dk) [])):=by rw [Bg (Bn p2 hk)]; exact p2
  have e3:(upd H2 dr (.dK (kR signs))) dk = some (.dK (kK signs ++ kM mates)):=by rw [Bg (Bn e2 hk)]; exact e2
  have r3:(upd H2 dr (.dK (kR signs))) dr = some (.dK (kR signs)):=Bk
  generalize upd H2 dr (.dK (kR signs)) = H3 at k3 p3 e3 r3
  refine ⟨p,_,_,_,rfl,p3,T.cl_Book,T.n_Book_ranks,Nat.lt_of_le_of_lt (De _ _ _) (by show 0 + 1 < 1000; decide),?_⟩
  have k4:Keep p H (upd H3 p (.ins t.C_Book dx (Br "ranks" (.ref dr) (Br "kinds" (.ref dk) [])))):=k3.trans Keep.put
  have p4:(upd H3 p (.ins t.C_Book dx (Br "ranks" (.ref dr) (Br "kinds" (.ref dk) [])))) p = some (.ins t.C_Book dx (Br "ranks" (.ref dr) (Br "kinds" (.ref dk) []))):=Bk
  have e4:(upd H3 p (.ins t.C_Book dx (Br "ranks" (.ref dr) (Br "kinds" (.ref dk) [])))) dk = some (.dK (kK signs ++ kM mates)):=by rw [Bg (Df e3 p3 (by intro z; cases z))]; exact e3
  have r4:(upd H3 p (.ins t.C_Book dx (Br "ranks" (.ref dr) (Br "kinds" (.ref dk) [])))) dr = some (.dK (kR signs)):=by rw [Bg (Df r3 p3 (by intro z; cases z))]; exact r3
  generalize upd H3 p (.ins t.C_Book dx (Br "ranks" (.ref dr) (Br "kinds" (.ref dk) []))) = H4 at k4 p4 e4 r4
  walk_at "rd"
  refine ⟨b,ys,mates,rfl,k4 _ _ hb nbp,mP k4,nd2,by omega,fun dm hk=>?_⟩
  have fm:H dm = none:=k4.free p4 hk
  walk_at "rd"
  have k5:Keep p H (upd H4 dm (.dK (kB mates))):=k4.trans (Keep.new hk)
  have p5:(upd H4 dm (.dK (kB mates))) p = some (.ins t.C_Book dx (Br "ranks" (.ref dr) (Br "kinds" (.ref dk) []))):=by rw [Bg (Bn p4 hk)]; exact p4
  have e5:(upd H4 dm (.dK (kB mates))) dk = some (.dK (kK signs ++ kM mates)):=by rw [Bg (Bn e4 hk)]; exact e4
  have r5:(upd H4 dm (.dK (kB mates))) dr = some (.dK (kR signs)):=by rw [Bg (Bn r4 hk)]; exact r4
  have m5:(upd H4 dm (.dK (kB mates))) dm = some (.dK (kB mates)):=Bk
  generalize upd H4 dm (.dK (kB mates)) = H5 at k5 p5 e5 r5 m5
  refine ⟨p,_,_,_,rfl,p5,T.cl_Book,T.n_Book_mates,Nat.lt_of_le_of_lt (De _ _ _) (Nat.lt_of_le_of_lt (Nat.succ_le_succ (De _ _ _)) (by show 0 + 1 + 1 < 1000; decide)),?_⟩
  have k6:Keep p H (upd H5 p (.ins t.C_Book dx (Br "mates" (.ref dm) (Br "ranks" (.ref dr) (Br "kinds" (.ref dk) []))))):=k5.trans Keep.put
  have p6:(upd H5 p (.ins t.C_Book dx (Br "mates" (.ref dm) (Br "ranks" (.ref dr) (Br "kinds" (.ref dk) []))))) p = some (.ins t.C_Book dx (Br "mates" (.ref dm) (Br "ranks" (.ref dr) (Br "kinds" (.ref dk) [])))):=Bk
  have e6:(upd H5 p (.ins t.C_Book dx (Br "mates" (.ref dm) (Br "ranks" (.ref dr) (Br "kinds" (.ref dk) []))))) dk = some (.dK (kK signs ++ kM mates)):=by rw [Bg (Df e5 p5 (by intro z; cases z))]; exact e5
  have r6:(upd H5 p (.ins t.C_Book dx (Br "mates" (.ref dm) (Br "ranks" (.ref dr) (Br "kinds" (.ref dk) []))))) dr = some (.dK (kR signs)):=by rw [Bg (Df r5 p5 (by intro z; cases z))]; exact r5
  have m6:(upd H5 p (.ins t.C_Book dx (Br "mates" (.ref dm) (Br "ranks" (.ref dr) (Br "kinds" (.ref dk) []))))) dm = some (.dK (kB mates)):=by rw [Bg (Df m5 p5 (by intro z; cases z))]; exact m5
  generalize upd H5 p (.ins t.C_Book dx (Br "mates" (.ref dm) (Br "ranks" (.ref dr) (Br "kinds" (.ref dk) [])))) = H6 at k6 p6 e6 r6 m6
  walk_at "rd"
  refine ⟨p,_,_,_,_,rfl,p6,T.cl_Book,T.n_Book_kinds,by rw [Cf,if_neg (by decide +kernel),Cf,if_neg (by decide +kernel),Cf,if_pos rfl],?_⟩
  walk_at "rd"
  refine ⟨dk,cc,_,zs,J,rfl,e6,k6 _ _ hc ncp,mJ k6,jo,fun dp kvs H7 hk s7 q7 lk7=>?_⟩
  have fp:H dp = none:=k6.free p6 hk
  walk_at "rd"
  have k7:Keep p H H7:=fun q' o e n=>s7 _ _ (k6 _ _ e n)
  have p7:=s7 _ _ p6
  have e7:=s7 _ _ e6
  have r7:=s7 _ _ r6
  have m7:=s7 _ _ m6
  clear k6 p6 e6 r6 m6 s7
  refine ⟨p,_,_,_,rfl,p7,T.cl_Book,T.n_Book_pairs,Nat.lt_of_le_of_lt (De _ _ _) (Nat.lt_of_le_of_lt (Nat.succ_le_succ (Nat.le_trans (De _ _ _) (Nat.succ_le_succ (De _ _ _)))) (by show 0 + 1 + 1 + 1 < 1000; decide)),?_⟩
  have k8:Keep p H (upd H7 p (.ins t.C_Book dx (Br "pairs" (.ref dp) (Br "mates" (.ref dm) (Br "ranks" (.ref dr) (Br "kinds" (.ref dk) [])))))):=k7.trans Keep.put
  have p8:(upd H7 p (.ins t.C_Book dx (Br "pairs" (.ref dp) (Br "mates" (.ref dm) (Br "ranks" (.ref dr) (Br "kinds" (.ref dk) [])))))) p = some (.ins t.C_Book dx (Br "pairs" (.ref dp) (Br "mates" (.ref dm) (Br "ranks" (.ref dr) (Br "kinds" (.ref dk) []))))):=Bk
  have e8:(upd H7 p (.ins t.C_Book dx (Br "pairs" (.ref dp) (Br "mates" (.ref dm) (Br "ranks" (.ref dr) (Br "kinds" (.ref dk) [])))))) dk = some (.dK (kK signs ++ kM mates)):=by rw [Bg (Df e7 p7 (by intro z; cases z))]; exact e7
  have r8:(upd H7 p (.ins t.C_Book dx (Br "pairs" (.ref dp) (Br "mates" (.ref dm) (Br "ranks" (.ref dr) (Br "kinds" (.ref dk) [])))))) dr = some (.dK (kR signs)):=by rw [Bg (Df r7 p7 (by intro z; cases z))]; exact r7
  have m8:(upd H7 p (.ins t.C_Book dx (Br "pairs" (.ref dp) (Br "mates" (.ref dm) (Br "ranks" (.ref dr) (Br "kinds" (.ref dk) [])))))) dm = some (.dK (kB mates)):=by rw [Bg (Df m7 p7 (by intro z; cases z))]; exact m7
  have q8:(upd H7 p (.ins t.C_Book dx (Br "pairs" (.ref dp) (Br "mates" (.ref dm) (Br "ranks" (.ref dr) (Br "kinds" (.ref dk) [])))))) dp = some (.dK kvs):=by rw [Bg (Df q7 p7 (by intro z; cases z))]; exact q7
  have lk8:LAt KvAt (upd H7 p (.ins t.C_Book dx (Br "pairs" (.ref dp) (Br "mates" (.ref dm) (Br "ranks" (.ref dr) (Br "kinds" (.ref dk) [])))))) kvs J:=lk7.mono fun x y h=>h.mono fun q' zs z=>by rw [Bg (Df z p7 (by intro z; cases z))]; exact z
  generalize upd H7 p (.ins t.C_Book dx (Br "pairs" (.ref dp) (Br "mates" (.ref dm) (Br "ranks" (.ref dr) (Br "kinds" (.ref dk) []))))) = H8 at k8 p8 e8 r8 m8 q8 lk8
  clear k7 p7 e7 r7 m7 q7 lk7
  walk_at "rd"
  refine ⟨p,_,_,_,_,rfl,p8,T.cl_Book,T.n_Book_pairs,by rw [Cf,if_pos rfl],?_⟩
  walk_at "rd"
  refine ⟨dp,kvs,J,rfl,q8,lk8,jo.np,jo.ln,fun dw H9 hk s9 w9=>?_⟩
  have fw:H dw = none:=k8.free p8 hk
  walk_at "rd"
  have p9:=s9 _ _ p8
  refine ⟨p,_,_,_,rfl,p9,T.cl_Book,T.n_Book_wholes,Nat.lt_of_le_of_lt (De _ _ _) (Nat.lt_of_le_of_lt (Nat.succ_le_succ (Nat.le_trans (De _ _ _) (Nat.succ_le_succ (Nat.le_trans (De _ _ _) (Nat.succ_le_succ (De _ _ _)))))) (by show 0 + 1 + 1 + 1 + 1 < 1000; decide)),?_⟩
  refine q _ kvs dx dk dr dm dp dw (fun q' o e n=>by rw [Bg n]; exact s9 _ _ (k8 _ _ e n)) fk fr' fm fp fw Bk ?_ ?_ ?_ ?_ ?_ ?_
  ·rw [Bg (Df e8 p8 (by intro z; cases z))]; exact s9 _ _ e8
  ·rw [Bg (Df r8 p8 (by intro z; cases z))]; exact s9 _ _ r8
  ·rw [Bg (Df m8 p8 (by intro z; cases z))]; exact s9 _ _ m8
  ·rw [Bg (Df q8 p8 (by intro z; cases z))]; exact s9 _ _ q8
  ·rw [Bg (Df w9 p9 (by intro z; cases z))]; exact w9
  ·exact lk8.mono fun x y h=>h.mono fun q' zs z=>by rw [Bg (Df z p8 (by intro z; cases z))]; exact s9 _ _ z
def Zd (K:PySem.W.Frag):Sp:=fun vs H Q _=>∃ a ns k,vs = [.ref a,.int k]/\SqL K H a (List.map V.int ns)/\0 <= k/\Q (.int (cel ns k)) H
theorem AjM {K:PySem.W.Frag} {a:Addr} {ns:List Int} {k:Int} {H:Hp} {Q:VK} {E:XK} (h:SqL K H a (List.map V.int ns)) (q:Q (.int (cel ns k)) H) (h0:0 <= k):Zd K [.ref a,.int k] H Q E:=⟨a,ns,k,rfl,h,h0,q⟩
local macro_rules | `(tactic| walk_at "u")=>`(tactic| with_reducible refine AjM (by assumption) ?_ ?_)
theorem Oe (T:Txt K mg t):Binds K t.d_qi ["_law_script","_law_k"] []:=T.F_qi.binds (ps:=["_law_script","_law_k"]) fun _ _ _ _ _ _ us hl=>match us,hl with | [_,_],_=>rfl
theorem Lb (T:Txt K mg t):FnOk P w K mg base (CX1 P w) 1 t.f_qi t.d_qi ["_law_script","_law_k"] (Zd K):=by
 refine T.F_qi.ok1 Akj (fun vs H Q E h=>?_) (fun cdv A outer s H vs Q E hr h=>?_)
 ·obtain ⟨a,ns,k,rfl,hS,h0,q⟩:=h
  rfl
 ·obtain ⟨a,ns,k,rfl,hS,h0,q⟩:=h
  have hu:=Co hr
  have hu64:=hr.units
  refine ⟨_,(Be (Di (Cj AfI (pv 1) (Ck (Fw) rfl T.z_len PySem.boot_len (Ba (pv 0) Bb)) (Ci _))
    (Bh (Cc (Cb (Dy) (pv 0) (pv 1) (fun _ _=>rfl))))
    Cw)
   (Bh (Cc Bf))),?_⟩
  try dsimp only [Cg,Bw]
  walk_at "rd"
  refine Nm (fun h=>?_) (fun h=>?_)
  ·have h':k < (((ns.map V.int).length:Nat):Int):=of_decide_eq_true h
   rw [List.length_map] at h'
   obtain ⟨n,rfl⟩:=Int.eq_ofNat_of_zero_le h0
   have hn:n < ns.length:=by omega
   walk_at "rd"
   refine Ga hS ?_ (Db (v:=V.int ns[n]) (by rw [List.getElem?_map,List.getElem?_eq_getElem hn]; rfl))
   have e:cel ns (n:Int) = ns[n]:=by unfold cel; rw [Int.toNat_natCast,List.getD_eq_getElem?_getD,List.getElem?_eq_getElem hn]; rfl
   rw [e] at q
   exact q
  ·have h':¬ k < (((ns.map V.int).length:Nat):Int):=fun z=>h (decide_eq_true z)
   rw [List.length_map] at h'
   walk_at "rd"
   have e:cel ns k = 0:=by unfold cel; rw [List.getD_eq_getElem?_getD,List.getElem?_eq_none (by omega)]; rfl
   rw [e] at q
   exact q
def Ail (K:PySem.W.Frag):Sp:=fun vs H Q _=>∃ a ns,vs = [.ref a]/\SqL K H a (List.map V.int ns)/\∀ l H',H l = none->Same H H'->H' l = some (.lst (sgL (sg ns) 29))->Q (.ref l) H'
theorem Aky (T:Txt K mg t):Binds K t.d_qbg ["_law_script"] []:=T.F_qbg.binds (ps:=["_law_script"]) fun _ _ _ _ _ _ us hl=>match us,hl with | [_],_=>rfl
theorem Aiv (T:Txt K mg t):FnOk P w K mg base (CX1 P w) 2 t.f_qbg t.d_qbg ["_law_script"] (Ail K):=by
 refine T.F_qbg.ok1 sc_qbg (fun vs H Q E h=>?_) (fun cdv A outer s H vs Q E hr h=>?_)
 ·obtain ⟨a,ns,rfl,hS,q⟩:=h
  rfl
 ·obtain ⟨a,ns,rfl,hS,q⟩:=h
  have hu:=Co hr
  have hu64:=hr.units
  refine ⟨_,(Be (Bt (i:=1) sc_qbg.nd rfl (by first | exact Or.inl rfl | exact Or.inr rfl) (Bp Cv (Bo (Lb T) (hr.mono (by decide)) rfl T.m_qi T.F_qi.kp (Oe T) .nil Bs (Ba (pv 0) (Ba Bf Bb))) (Bp Jk Bf Bf)))
   (Be (Bt (i:=2) sc_qbg.nd rfl (by first | exact Or.inl rfl | exact Or.inr rfl) (Bp Do Bf (Bp Cv (Bo (Lb T) (hr.mono (by decide)) rfl T.m_qi T.F_qi.kp (Oe T) .nil Bs (Ba (pv 0) (Ba Bf Bb))) (Bp Jk Bf Bf))))
   (Be (Bt (i:=3) sc_qbg.nd rfl (by first | exact Or.inl rfl | exact Or.inr rfl) (Bp Do Bf (Bp Cv (Bp Fm (Bo (Lb T) (hr.mono (by decide)) rfl T.m_qi T.F_qi.kp (Oe T) .nil Bs (Ba (pv 0) (Ba Bf Bb))) (Bp Jk Bf Bf)) Bf)))
   (Bh (Cc (Zs 1 [1,2,3] ["_law_k","_law_low","_law_step","_law_by"] ["_law_step","_law_low","_law_by"] rfl (Lg rfl T.z_range (Ba Bf Bb)) rfl (fun j y e1 i e2=>match j,e1,e2 with | 0,e1,e2=>by cases e1; cases e2; exact ⟨rfl,rfl,rfl,by decide +kernel⟩ | 1,e1,e2=>by cases e1; cases e2; exact ⟨rfl,rfl,rfl,by decide +kernel⟩ | 2,e1,e2=>by cases e1; cases e2; exact ⟨rfl,rfl,rfl,by decide +kernel⟩ | _ + 3,_,e2=>by simp at e2) (List.forall_mem_cons.mpr ⟨rfl,List.forall_mem_cons.mpr ⟨rfl,List.forall_mem_cons.mpr ⟨rfl,fun _ h=>nomatch h⟩⟩⟩) (by decide +kernel) (fun _ _ _ _=>(By (i:=0) (show List.Nodup (["_law_k","_law_low","_law_step","_law_by"]:List Str) by decide +kernel) rfl (Or.inl rfl))) (fun _ _ _ _=>Vi) (fun _ _ _ _=>(Bp Do (pv 1) (Bp Ur (pv 2) (Bp Cv (Bp Ur (pv 0) (pv 3)) Bf)))) rfl (by decide +kernel) rfl (by decide +kernel))))))),?_⟩
  try dsimp only [Cg,Bw]
  walk_at "rd"
  refine Cy ⟨by decide,by decide,by decide⟩ ?_
  refine Cy (by show (0:Int) < 10 ^ 29; decide) ?_
  walk_at "rd"
  refine Cy ⟨by decide,by decide,by decide⟩ ?_
  refine Cy (by show (0:Int) < 10 ^ 6; decide) ?_
  walk_at "rd"
  refine Cy ⟨by decide,by decide,by decide⟩ ?_
  refine Cy ⟨by decide,by decide⟩ ?_
  walk_at "rd"
  refine Cy (by show (0:Int) < 28; decide) ?_
  walk_at "rd"
  refine Ta ?_
  refine AjO ?_
  walk_at "rd"
  refine ⟨29,rfl,by decide,by decide,fun D hD=>CP.range (fun i H'=>Same H H'/\H' D = some (.lst (sgL (sg ns) i))) ⟨Same.laid hD,Bk⟩ ?_ ?_⟩
  ·rintro i H' N hi ⟨s,e⟩ hN
   walk_at "cs"
   walk_at "rd"
   refine ⟨rfl,Air (Lh ?_)⟩
   walk_at "rd"
   refine Cy (.inl ⟨by omega,by omega⟩) ?_
   walk_at "rd"
   refine Cy (by show (0:Int) < 29; decide) ?_
   refine Cy (.inr ⟨by omega,by omega⟩) ?_
   walk_at "rd"
   refine ⟨_,e,Fh (by simp [sgL]; omega),hN _ ⟨fun q' o z=>?_,?_⟩⟩
   ·rw [Bg (Bn z hD)]; exact s _ _ z
   ·rw [Bk,AeO]
    unfold sg
    rw [Int.zero_add]
    rfl
  ·rintro H' ⟨s,e⟩
   exact q D H' hD s e
  all_goals decide
def AiU:Sp:=fun vs H Q _=>∃ l S c u,vs = [.ref l,.int c,.int u]/\H l = some (.lst (sgL S 29))/\1 <= u/\∀ r xs R H',H r = none->Same H H'->H' r = some (.lst xs)->LAt TripAt H' xs R->MkR S R->R ≠ []->Q (.ref r) H'
theorem Aks (T:Txt K mg t):Binds K t.d_qbd ["_law_signs_here","_law_cell","_law_unit"] []:=T.F_qbd.binds (ps:=["_law_signs_here","_law_cell","_law_unit"]) fun _ _ _ _ _ _ us hl=>match us,hl with | [_,_,_],_=>rfl
theorem Ai0 (T:Txt K mg t):FnOk P w K mg base (CX1 P w) 1 t.f_qbd t.d_qbd ["_law_signs_here","_law_cell","_law_unit"] (AiU):=by
 refine T.F_qbd.ok1 sc_qbd (fun vs H Q E h=>?_) (fun cdv A outer s H vs Q E hr h=>?_)
 ·obtain ⟨l,S,cc,u,rfl,hl,hu1,q⟩:=h
  rfl
 ·obtain ⟨l,S,cc,u,rfl,hl,hu1,q⟩:=h
  have hu:=Co hr
  have hu64:=hr.units
  refine ⟨_,(Be (Bt (i:=3) sc_qbd.nd rfl (Or.inl rfl) (Cp Bb))
   (Be (Dm PassesOwn.leaving rfl (Lg rfl T.z_range (Ba (Bp Do Bf (Bp Cv (pv 1) Bf)) Bb)) (By (i:=4) sc_qbd.nd rfl (Or.inl rfl))
    (Be (Bt (i:=1) sc_qbd.nd rfl (Or.inl rfl) (Bp Fm (pv 1) Bf))
   (Bh (Cl (Jz PySem.F.plainAttrs_list PySem.F.slot_list_append PySem.F.type_list_append Fe (pv 3) (Ba (Cq (Ba (Cb (Dy) (pv 0) (pv 4) (fun _ _=>rfl)) (Ba Bu (Ba (Bp Ur (pv 2) (Bp Do Bf (Bp Cv (pv 1) Bf))) Bb)))) Bb))))))
   (Bh (Cc (pv 3))))),?_⟩
  try dsimp only [Cg,Bw]
  walk_at "rd"
  refine ⟨by decide,fun r H0 hr0 s0 e0=>?_⟩
  walk_at "rd"
  refine Tf (hi:=1 + cc % 5) (n:=(1 + cc % 5).toNat) (fun R q'=>by walk_at "rd"; refine Cy (by show (0:Int) < 5; decide) ?_; walk_at "rd"; exact q') ⟨by omega,by omega⟩ rfl
   (fun i σ H'=>∃ c' v xs R,σ = [some (.ref l),some (.int c'),some (.int u),some (.ref r),v]/\Same H H'/\H' r = some (.lst xs)/\LAt TripAt H' xs R/\MkR S R/\R.length = i) ⟨cc,none,[],[],rfl,s0,e0,LAt.nil,MkR.nil,rfl⟩ ?_ ?_
  ·rintro i σ H' hi ⟨c',v,xs,R,rfl,s,e,lt,mk,rfl⟩
   have hi5:R.length < 5:=by omega
   have el:=s _ _ hl
   have hxl:=lt.1
   walk_at "rd"
   refine Cy ⟨by decide,by decide⟩ ?_
   walk_at "rd"
   refine Ga (SqL.of el) ?_ (v:=.int (S R.length)) (by rw [Int.zero_add]; exact Db (Gh (by omega)))
   walk_at "rd"
   refine Cy (by show (0:Int) < 3; decide) ?_
   walk_at "rd"
   refine Cy (.inr ⟨by omega,by omega⟩) ?_
   walk_at "rd"
   refine ⟨by show 3 <= sizeLine; decide,fun p H2 hp s2 e2=>?_⟩
   walk_at "rd"
   refine Ny (s2 _ _ e) (Fh (by omega)) fun H3 c3 e3=>?_
   refine ⟨_,_,_,_,rfl,(s.trans s2).chg c3 hr0,e3,LAt.snoc ((lt.tripS s2).tripC c3 (s2 _ _ e)) ⟨p,rfl,c3.tup (s2 _ _ e) e2⟩,mk.snoc hi5 ?_,by simp⟩
   have:(0:Int) < u * (1 + c' / 5 % 3):=Int.mul_pos (by omega) (by omega)
   omega
  ·rintro σ H' ⟨c',v,xs,R,rfl,s,e,lt,mk,hl'⟩
   walk_at "rd"
   refine q r xs R H' hr0 s e lt mk fun z=>?_
   subst z
   have:(1 + cc % 5).toNat = 0:=hl'.symm
   omega
def AhK:Sp:=fun vs H Q _=>∃ l S c,vs = [.ref l,.int c]/\H l = some (.lst (sgL S 29))/\∀ r xs R H',H r = none->Same H H'->H' r = some (.lst xs)->LAt TripAt H' xs R->BsR S R->R ≠ []->Q (.ref r) H'
theorem AkJ (T:Txt K mg t):Binds K t.d_qz ["_law_signs_here","_law_cell"] []:=T.F_qz.binds (ps:=["_law_signs_here","_law_cell"]) fun _ _ _ _ _ _ us hl=>match us,hl with | [_,_],_=>rfl
theorem Akl (T:Txt K mg t):FnOk P w K mg base (CX1 P w) 1 t.f_qz t.d_qz ["_law_signs_here","_law_cell"] (AhK):=by
 refine T.F_qz.ok1 sc_qz (fun vs H Q E h=>?_) (fun cdv A outer s H vs Q E hr h=>?_)
 ·obtain ⟨l,S,cc,rfl,hl,q⟩:=h
  rfl
 ·obtain ⟨l,S,cc,rfl,hl,q⟩:=h
  have hu:=Co hr
  have hu64:=hr.units
  refine ⟨_,(Be (Bt (i:=2) sc_qz.nd rfl (Or.inl rfl) (Cp Bb))
   (Be (Dm PassesOwn.leaving rfl (Lg rfl T.z_range (Ba (Bp Do Bf (Bp Cv (pv 1) Bf)) Bb)) (By (i:=3) sc_qz.nd rfl (Or.inl rfl))
    (Be (Bt (i:=1) sc_qz.nd rfl (Or.inl rfl) (Bp Fm (pv 1) Bf))
   (Bh (Cl (Jz PySem.F.plainAttrs_list PySem.F.slot_list_append PySem.F.type_list_append Fe (pv 2) (Ba (Cq (Ba (Cb (Dy) (pv 0) (Bp Do Bf (pv 3)) (fun _ _=>rfl)) (Ba (Cb (Dy) (Cp (Ba Bu (Ba Bu (Ba Bu (Ba Bu (Ba Bu Bb)))))) (Bp Cv (pv 1) Bf) (fun _ _=>rfl)) (Ba Bf Bb)))) Bb))))))
   (Bh (Cc (pv 2))))),?_⟩
  try dsimp only [Cg,Bw]
  walk_at "rd"
  refine ⟨by decide,fun r H0 hr0 s0 e0=>?_⟩
  walk_at "rd"
  refine Tf (hi:=2 + cc % 4) (n:=(2 + cc % 4).toNat) (fun R q'=>by walk_at "rd"; refine Cy (by show (0:Int) < 4; decide) ?_; walk_at "rd"; exact q') ⟨by omega,by omega⟩ rfl
   (fun i σ H'=>∃ c' v xs R,σ = [some (.ref l),some (.int c'),some (.ref r),v]/\Same H H'/\H' r = some (.lst xs)/\LAt TripAt H' xs R/\BsR S R/\R.length = i) ⟨cc,none,[],[],rfl,s0,e0,LAt.nil,BsR.nil,rfl⟩ ?_ ?_
  ·rintro i σ H' hi ⟨c',v,xs,R,rfl,s,e,lt,mk,rfl⟩
   have hi5:R.length < 5:=by omega
   have el:=s _ _ hl
   have hxl:=lt.1
   walk_at "rd"
   refine Cy ⟨by decide,by decide⟩ ?_
   walk_at "rd"
   refine Ga (SqL.of el) ?_ (v:=.int (S (5 + R.length))) (by rw [Int.zero_add]; exact Db (j:=5 + R.length) (Gh (by omega)))
   walk_at "rd"
   refine ⟨by show 5 <= sizeLine; decide,fun m H1 hm s1 e1=>?_⟩
   walk_at "rd"
   refine Cy (by show (0:Int) < 5; decide) ?_
   refine Ga (SqL.of e1) ?_ (AhW (Int.emod_nonneg _ (by decide)) (Int.emod_lt_of_pos _ (by decide)))
   walk_at "rd"
   refine ⟨by show 3 <= sizeLine; decide,fun p H2 hp s2 e2=>?_⟩
   have s12:=s1.trans s2
   walk_at "rd"
   refine Ny (s12 _ _ e) (Fh (by omega)) fun H3 c3 e3=>?_
   exact ⟨_,_,_,_,rfl,(s.trans s12).chg c3 hr0,e3,LAt.snoc ((lt.tripS s12).tripC c3 (s12 _ _ e)) ⟨p,rfl,c3.tup (s12 _ _ e) e2⟩,mk.snoc hi5 (AiD (Int.emod_nonneg _ (by decide)) (Int.emod_lt_of_pos _ (by decide))),by simp⟩
  ·rintro σ H' ⟨c',v,xs,R,rfl,s,e,lt,mk,hl'⟩
   walk_at "rd"
   refine q r xs R H' hr0 s e lt mk fun z=>?_
   subst z
   have:(2 + cc % 4).toNat = 0:=hl'.symm
   omega
theorem Aeo {K:PySem.W.Frag} {H:Hp} (ys:List V):LEq K H ys [] (decide (ys = [])):=by
 cases ys with
 | nil=>exact AgX
 | cons y r=>exact .inl ⟨by simp,by simp⟩
theorem Ajd {K:PySem.W.Frag} {H:Hp} {Q:VK} {p r:Addr} {a b c d:Int} (h1:H p = some (.tup [.int a,.int b])) (h2:H r = some (.tup [.int c,.int d])) (ne:p ≠ r) (q:Q (.bl (decide (a = c/\b = d))) H):AdX K false (.ref p) (.ref r) H Q:=by
 have e:((List.range (min [V.int a,V.int b].length [V.int c,V.int d].length)).all (fun i=>if i = 0 then eqV (.int a) (.int c) else eqV (.int b) (.int d)) && [V.int a,V.int b].length == [V.int c,V.int d].length) = decide (a = c/\b = d):=by
  have h2:min [V.int a,V.int b].length [V.int c,V.int d].length = 2:=rfl
  rw [h2,show List.range 2 = [0,1] from rfl]
  simp [eqV]
  rfl
 refine ⟨p,r,_,_,fun i=>if i = 0 then eqV (.int a) (.int c) else eqV (.int b) (.int d),rfl,rfl,SqT.of h1,SqT.of h2,fun i x y e1 e2=>?_,?_⟩
 ·match i,e1,e2 with
  | 0,e1,e2=>cases e1; cases e2; exact .flat rfl rfl
  | 1,e1,e2=>cases e1; cases e2; exact .flat rfl rfl
  | _ + 2,e1,_=>simp at e1
 ·rw [<- e] at q
  exact q
def Ajj:Sp:=fun vs H Q _=>∃ rl sl ml c S xs ms R0 Mk,vs = [.ref rl,.ref sl,.ref ml,.int c]/\H rl = some (.lst xs)/\H sl = some (.lst (sgL S 29))/\H ml = some (.lst ms)/\LAt TripAt H xs R0/\LAt TripAt H ms Mk/\R0 ≠ []/\(Mk ≠ []/\MkR S Mk)/\BsR S R0/\sl ≠ rl/\ml ≠ rl /\
 ∀ jl js J xs' R H' k,H jl = none->Chg rl H H'->H' jl = some (.lst js)->LAt TrjAt H' js J->H' rl = some (.lst xs')->LAt TripAt H' xs' R->JB S R0 Mk k R J->k <= 7->Q (.ref jl) H'
theorem Ajw (T:Txt K mg t):Binds K t.d_qbb ["_law_rows","_law_signs_here","_law_marks_here","_law_cell"] []:=T.F_qbb.binds (ps:=["_law_rows","_law_signs_here","_law_marks_here","_law_cell"]) fun _ _ _ _ _ _ us hl=>match us,hl with | [_,_,_,_],_=>rfl
theorem AhP (T:Txt K mg t):FnOk P w K mg base (CX1 P w) 1 t.f_qbb t.d_qbb ["_law_rows","_law_signs_here","_law_marks_here","_law_cell"] (Ajj):=by
 refine T.F_qbb.ok1 sc_qbb (fun vs H Q E h=>?_) (fun cdv A outer s H vs Q E hr h=>?_)
 ·obtain ⟨rl,sl,ml,cc,S,xs0,ms,R0,Mk,rfl,hrl,hsl,hml,lr0,lm0,hR0,hM0,hB,n1,n2,q⟩:=h
  rfl
 ·obtain ⟨rl,sl,ml,cc,S,xs0,ms,R0,Mk,rfl,hrl,hsl,hml,lr0,lm0,hR0,hM0,hB,n1,n2,q⟩:=h
  have hu:=Co hr
  have hu64:=hr.units
  refine ⟨_,(Be (Bt (i:=4) sc_qbb.nd rfl (Or.inl rfl) (Cp Bb))
   (Be (Dm PassesOwn.leaving rfl (Lg rfl T.z_range (Ba (Bp Cv (pv 3) Bf) Bb)) (By (i:=5) sc_qbb.nd rfl (Or.inl rfl))
    (Be (Bt (i:=3) sc_qbb.nd rfl (Or.inl rfl) (Bp Fm (pv 3) Bf))
   (Be (Bt (i:=6) sc_qbb.nd rfl (by first | exact Or.inl rfl | exact Or.inr rfl) (Cb (Dy) (pv 0) (Bp Cv (pv 3) (Ck (Fw) rfl T.z_len PySem.boot_len (Ba (pv 0) Bb))) (fun _ _=>rfl)))
   (Be (Bt (i:=7) sc_qbb.nd rfl (by first | exact Or.inl rfl | exact Or.inr rfl) (Cb (Rs) (Cb (Dy) (pv 2) (Bp Cv (Bp Fm (pv 3) Bf) (Ck (Fw) rfl T.z_len PySem.boot_len (Ba (pv 2) Bb))) (fun _ _=>rfl)) Bf (fun _ _=>rfl)))
   (Be (Di (Cj (AcN hu64) (Zs 1 [6,7] ["_law_join","_law_base","_law_mark"] ["_law_mark","_law_base"] rfl (Dh (pv 4)) rfl (fun j y e1 i e2=>match j,e1,e2 with | 0,e1,e2=>by cases e1; cases e2; exact ⟨rfl,rfl,rfl,by decide +kernel⟩ | 1,e1,e2=>by cases e1; cases e2; exact ⟨rfl,rfl,rfl,by decide +kernel⟩ | _ + 2,_,e2=>by simp at e2) (List.forall_mem_cons.mpr ⟨rfl,List.forall_mem_cons.mpr ⟨rfl,fun _ h=>nomatch h⟩⟩) (by decide +kernel) (fun _ _ _ _=>(By (i:=0) (show List.Nodup (["_law_join","_law_base","_law_mark"]:List Str) by decide +kernel) rfl (Or.inl rfl))) (fun _ _ _ _=>(So (Cj (Agn K hu64) (Dk (Agl K) (pv 0) (Dl Bf) Fj) (Cq (Ba (Cb (Dd K) (pv 1) Bf (fun _ _=>rfl)) (Ba (pv 2) Bb))) (Ci _)))) (fun _ _ _ _=>(pv 0)) rfl (by decide +kernel) rfl (by decide +kernel)) (Cp Bb) (Ci _))
    (Be (Cl (Jz PySem.F.plainAttrs_list PySem.F.slot_list_append PySem.F.type_list_append Fe (pv 4) (Ba (Cq (Ba (Cb (Dy) (pv 1) (Bp Do Bf (pv 5)) (fun _ _=>rfl)) (Ba (Cb (Rs) (pv 6) Bf (fun _ _=>rfl)) (Ba (pv 7) Bb)))) Bb)))
   (Bh (Cl (Jz PySem.F.plainAttrs_list PySem.F.slot_list_append PySem.F.type_list_append Fe (pv 0) (Ba (Cq (Ba (Cb (Dy) (pv 1) (Bp Do Bf (pv 5)) (fun _ _=>rfl)) (Ba (Cb (Rs) (pv 6) Bf (fun _ _=>rfl)) (Ba Bf Bb)))) Bb)))))
    Cw)
   (Bh (Bt (i:=3) sc_qbb.nd rfl (Or.inl rfl) (Bp Fm (pv 3) Bf))))))))
   (Bh (Cc (pv 4))))),?_⟩
  try dsimp only [Cg,Bw]
  walk_at "rd"
  refine ⟨by decide,fun jl H0 hj0 s0 e0=>?_⟩
  have njr:jl ≠ rl:=(Bn hrl hj0).symm
  have njs:jl ≠ sl:=(Bn hsl hj0).symm
  have njm:jl ≠ ml:=(Bn hml hj0).symm
  walk_at "rd"
  refine Tf (hi:=cc % 8) (n:=(cc % 8).toNat) (fun R q'=>by walk_at "rd"; refine Cy (by show (0:Int) < 8; decide) ?_; walk_at "rd"; exact q') ⟨by omega,by omega⟩ rfl
   (fun i σ H'=>∃ c' v5 v6 v7 xs js R J,σ = [some (.ref rl),some (.ref sl),some (.ref ml),some (.int c'),some (.ref jl),v5,v6,v7]/\Chg rl H H'/\H' rl = some (.lst xs)/\LAt TripAt H' xs R/\H' jl = some (.lst js)/\LAt TrjAt H' js J/\JB S R0 Mk i R J)
   ⟨cc,none,none,none,xs0,[],R0,[],rfl,fun q' o z _=>s0 _ _ z,s0 _ _ hrl,lr0.tripS s0,e0,LAt.nil,.nil⟩ ?_ ?_
  ·rintro i σ H' hi ⟨c',v5,v6,v7,xs,js,R,J,rfl,ch,erl,lr,ejl,lj,jb⟩
   have hi7:i < 7:=by omega
   obtain ⟨jl1,jl2⟩:=jb.len
   have hBl:=hB.ln
   have hM5:=hM0.2.ln
   have hRn:0 < xs.length:=by
    rw [lr.1,jl2]
    have:=List.length_pos_iff.mpr hR0
    omega
   have hMn:0 < ms.length:=by
    rw [lm0.1]; exact List.length_pos_iff.mpr hM0.1
   have esl:=ch _ _ hsl n1
   have eml:=ch _ _ hml n2
   have lm:LAt TripAt H' ms Mk:=lm0.tripC ch hrl
   have hxl:xs.length <= 12:=by rw [lr.1,jl2]; omega
   have hjs:js.length <= 7:=by rw [lj.1]; omega
   walk_at "rd"
   refine Cy ⟨by decide,by decide⟩ ?_
   walk_at "rd"
   refine Cy (by show (0:Int) < (xs.length:Nat); omega) ?_
   obtain ⟨x,ex⟩:∃ x,xs[(c' / 8 % (xs.length:Nat)).toNat]? = some x:=⟨_,List.getElem?_eq_getElem (by
    have z1:=Int.emod_nonneg (c' / 8) (b:=(xs.length:Nat)) (by omega)
    have z2:=Int.emod_lt_of_pos (c' / 8) (b:=(xs.length:Nat)) (by omega)
    omega)⟩
   obtain ⟨s,es,p,rfl,hp⟩:=lr.get ex
   have hs:=List.mem_of_getElem? es
   refine Ga (SqL.of erl) ?_ (v:=.ref p) (by
    have z1:=Int.emod_nonneg (c' / 8) (b:=(xs.length:Nat)) (by omega)
    rw [show c' / 8 % (xs.length:Nat) = (((c' / 8 % (xs.length:Nat)).toNat:Nat):Int) by omega]
    exact Db ex)
   walk_at "rd"
   refine Cy ⟨by decide,by decide⟩ ?_
   walk_at "rd"
   refine Cy (by show (0:Int) < (ms.length:Nat); omega) ?_
   obtain ⟨y,ey⟩:∃ y,ms[(c' / 8 / 16 % (ms.length:Nat)).toNat]? = some y:=⟨_,List.getElem?_eq_getElem (by
    have z1:=Int.emod_nonneg (c' / 8 / 16) (b:=(ms.length:Nat)) (by omega)
    have z2:=Int.emod_lt_of_pos (c' / 8 / 16) (b:=(ms.length:Nat)) (by omega)
    omega)⟩
   obtain ⟨m,em,pm,rfl,hpm⟩:=lm.get ey
   have hm:=List.mem_of_getElem? em
   refine Ga (SqL.of eml) ?_ (v:=.ref pm) (by
    have z1:=Int.emod_nonneg (c' / 8 / 16) (b:=(ms.length:Nat)) (by omega)
    rw [show c' / 8 / 16 % (ms.length:Nat) = (((c' / 8 / 16 % (ms.length:Nat)).toNat:Nat):Int) by omega]
    exact Db ey)
   walk_at "rd"
   refine Tc hpm ?_ rfl
   walk_at "rd"
   refine Ta ?_
   refine AdP ?_
   walk_at "rd"
   refine ⟨jl,rfl,⟨_,SqL.of ejl⟩,fun D hD=>CP.list (js) (fun i H2=>Same H' H2/\∃ ys,H2 D = some (.lst ys)/\(ys = [] ↔ ¬ (s.1,m.1) ∈ (J.take i).map (·.2))/\ys.length <= i) ⟨Same.laid hD,[],Bk,by simp,Nat.le_refl _⟩ (fun i H2 _ h=>SqL.of (h.1 _ _ ejl)) ?_ ?_⟩
   ·rintro n x2 H2 N hn ⟨s2,ys,ey2,iff,hyl⟩ hN
    obtain ⟨j,ej,a,rfl,ha⟩:=lj.get hn
    have hlt:=(List.getElem?_eq_some_iff.mp hn).1
    have ha2:=s2 _ _ ha
    have hp2:=s2 _ _ hp
    walk_at "cs"
    walk_at "rd"
    refine ⟨rfl,?_⟩
    walk_at "rd"
    refine ⟨a,_,rfl,SqT.of ha2,(show ¬ (HT.sIx 3 0 (some 1) = 0/\HT.sIx 3 3 none = 3) by decide),fun p3 H3 hp3 s3 e3=>?_⟩
    have hp4:=s3 _ _ hp2
    walk_at "rd"
    refine Tc hp4 ?_ rfl
    walk_at "rd"
    refine ⟨by show 2 <= sizeLine; decide,fun p4 H4 hp4 s4 e4=>?_⟩
    walk_at "rd"
    refine Ajd (a:=j.2.1) (b:=j.2.2) (s4 _ _ e3) e4 (Bn e3 hp4) ?_
    have s24:=(s2.trans s3).trans s4
    have ey4:=s4 _ _ (s3 _ _ ey2)
    have et:(J.take (n + 1)).map (·.2) = (J.take n).map (·.2) ++ [j.2]:=by rw [Dj ej,List.map_append]; rfl
    walk_at "rd"
    refine Nm (fun h=>?_) (fun h=>?_)
    ·have h':j.2.1 = s.1/\j.2.2 = m.1:=of_decide_eq_true h
     walk_at "rd"
     refine ⟨ys,ey4,Fh (by omega),hN _ ⟨fun q' o z=>?_,_,Bk,?_,by simp; omega⟩⟩
     ·rw [Bg (Bn z hD)]; exact s24 _ _ z
     ·rw [et]
      constructor
      ·intro z; simp at z
      ·intro z; exact absurd (List.mem_append_right _ (by rw [<- h'.1,<- h'.2]; exact List.mem_cons_self)) z
    ·have h':¬ (j.2.1 = s.1/\j.2.2 = m.1):=fun z=>h (decide_eq_true z)
     refine hN _ ⟨s24,ys,ey4,?_,by omega⟩
     rw [et,iff,List.mem_append]
     constructor
     ·intro z w
      rcases w with w | w
      ·exact z w
      ·have:=List.mem_singleton.mp w
       exact h' ⟨by rw [<- this],by rw [<- this]⟩
     ·exact fun z w=>z (.inl w)
   ·rintro H2 ⟨s2,ys,ey2,iff,hyl⟩
    rw [lj.1,List.take_length] at iff
    walk_at "rd"
    refine ⟨by decide,fun e1 H3 he1 s3 ee1=>?_⟩
    have s23:=s2.trans s3
    walk_at "rd"
    refine Ajn (k:=decide (ys = [])) (SqL.of (s3 _ _ ey2)) (SqL.of ee1) (Aeo ys) ?_
    replace erl:=s23 _ _ erl
    replace ejl:=s23 _ _ ejl
    replace lr:=LAt.tripS lr s23
    replace lj:=LAt.trjS lj s23
    replace ch:=Chg.same ch s23
    replace esl:=s23 _ _ esl
    replace hp:=s23 _ _ hp
    walk_at "rd"
    refine Nm (fun h=>?_) (fun h=>?_)
    ·have hn:¬ (s.1,m.1) ∈ J.map (·.2):=iff.mp (of_decide_eq_true h)
     walk_at "rd"
     refine Ga (SqL.of esl) ?_ (v:=.int (S (10 + i))) (by rw [Int.zero_add]; exact Db (j:=10 + i) (Gh (by omega)))
     walk_at "rd"
     refine Tc hp ?_ rfl
     walk_at "rd"
     refine ⟨by show 3 <= sizeLine; decide,fun p5 H5 hp5 s5 e5=>?_⟩
     replace erl:=s5 _ _ erl
     replace ejl:=s5 _ _ ejl
     replace lr:=LAt.tripS lr s5
     replace lj:=LAt.trjS lj s5
     replace ch:=Chg.same ch s5
     replace esl:=s5 _ _ esl
     replace hp:=s5 _ _ hp
     walk_at "rd"
     refine Ny ejl (Fh (by omega)) fun H6 c6 e6=>?_
     have cf:H jl = none:=hj0
     replace erl:=c6 _ _ erl (Ne.symm (by assumption))
     replace lr:=LAt.tripC lr c6 ejl
     replace lj:=LAt.trjC lj c6 ejl
     replace esl:=c6 _ _ esl (Ne.symm (by assumption))
     replace hp:=Chg.tup c6 ejl hp
     replace e5:=Chg.tup c6 ejl e5
     have ch6:Chg rl H H6:=fun q' o z nz=>c6 _ _ (ch _ _ z nz) (Bn z hj0)
     walk_at "rd"
     refine Ga (SqL.of esl) ?_ (v:=.int (S (10 + i))) (by rw [Int.zero_add]; exact Db (j:=10 + i) (Gh (by omega)))
     walk_at "rd"
     refine Tc hp ?_ rfl
     walk_at "rd"
     refine ⟨by show 3 <= sizeLine; decide,fun p7 H7 hp7 s7 e7=>?_⟩
     replace erl:=s7 _ _ erl
     replace e6:=s7 _ _ e6
     replace lr:=LAt.tripS lr s7
     replace lj:=LAt.trjS lj s7
     replace ch6:=Chg.same ch6 s7
     replace e5:=s7 _ _ e5
     walk_at "rd"
     refine Ny erl (Fh (by omega)) fun H8 c8 e8=>?_
     have e7':=c8.tup erl e7
     have e5':=c8.tup erl e5
     have ch8:=ch6.trans c8
     have lr8:=lr.tripC c8 erl
     have lj8:=lj.trjC c8 erl
     have e68:=c8 _ _ e6 njr
     walk_at "rd"
     refine Cy ⟨by decide,by decide⟩ ?_
     walk_at "rd"
     exact ⟨_,_,_,_,_,_,_,_,rfl,ch8,e8,LAt.snoc lr8 ⟨p7,rfl,e7'⟩,e68,LAt.snoc lj8 ⟨p5,rfl,e5'⟩,.add jb hs hm hn⟩
    ·walk_at "rd"
     refine Cy ⟨by decide,by decide⟩ ?_
     walk_at "rd"
     exact ⟨_,_,_,_,_,_,_,_,rfl,ch,erl,lr,ejl,lj,.skip jb⟩
  ·rintro σ H' ⟨c',v5,v6,v7,xs,js,R,J,rfl,ch,erl,lr,ejl,lj,jb⟩
   walk_at "rd"
   exact q jl js J xs R H' _ hj0 ch ejl lj erl lr jb (by omega)
def Zf (K:PySem.W.Frag):Sp:=fun vs H Q _=>∃ a ns,vs = [.ref a]/\SqL K H a (List.map V.int ns)/\∀ tp l0 l1 l2 x0 x1 x2 U M J H',Same H H'->H' tp = some (.tup [.ref l0,.ref l1,.ref l2])->H' l0 = some (.lst x0)->H' l1 = some (.lst x1)->H' l2 = some (.lst x2) ->
 LAt TripAt H' x0 U->LAt PairAt H' x1 M->LAt TrjAt H' x2 J->H l0 = none->H l1 = none->H l2 = none->Fl U M J->Q (.ref tp) H'
def Adc:PSp:=fun ps P=>∃ ns,ps = [.scr ns]/\∀ U M J,Fl U M J->P (.tup [.lst (List.map sgP U),.lst (List.map prP M),.lst (List.map jnP J)])
theorem AjJ {C:Addr} {G:Hp} {a b c:V} {p q r:PV} (h1:Rep K C G a p) (h2:Rep K C G b q) (h3:Rep K C G c r):Reps K C G [a,b,c] [p,q,r]:=LAt.snoc (LAt.snoc (LAt.snoc LAt.nil h1) h2) h3
theorem AeB {C:Addr} {ω:Om} {E:XK} {m:Bool} {t:TA} {u:UA} (ha:AU K C ω [m] t u):EU K C ω (Ob (Zf K) [] E t) (Ug Adc u) :=
 fun B G0 H0 own G σ H ρ P Q S hu k=>ha B G0 H0 own G σ H ρ _ _ S hu fun vs ps G1 H1 w1 ok ⟨ns,e,h⟩=>by
  obtain ⟨v,p,rfl,e2,r⟩:=Nv ok
  rw [e] at e2; cases e2
  obtain ⟨a,rfl,sq⟩:=r.scr w1.i
  refine ⟨a,ns,rfl,sq,fun tp l0 l1 l2 x0 x1 x2 U M J H2 s2 etp e0 e1 e2 lU lM lJ f0 f1 f2 bk=>?_⟩
  refine k _ _ _ H2 (w1.trans (Uk w1.i s2)) (Rep.ofT (Gj etp) (AjJ (Rep.ofL (Fi f0 e0) ((Jv Yr).mpr ?_)) (Rep.ofL (Fi f1 e1) ((Jv Yf).mpr ?_)) (Rep.ofL (Fi f2 e2) ((Jv Aai).mpr ?_)))) (h U M J bk)
  ·exact lU.mono fun _ _ ⟨p,z,hp⟩=>⟨p,z,Gj hp⟩
  ·exact lM.mono fun _ _ ⟨p,z,hp⟩=>⟨p,z,Gj hp⟩
  ·exact lJ.mono fun _ _ ⟨p,z,hp⟩=>⟨p,z,Gj hp⟩
theorem Aj1 (T:Txt K mg t):Binds K t.d_qbc ["_law_script"] []:=T.F_qbc.binds (ps:=["_law_script"]) fun _ _ _ _ _ _ us hl=>match us,hl with | [_],_=>rfl
theorem Ahc (T:Txt K mg t):FnOk P w K mg base (CX1 P w) 3 t.f_qbc t.d_qbc ["_law_script"] (Zf K):=by
 refine T.F_qbc.ok1 sc_qbc (fun vs H Q E h=>?_) (fun cdv A outer s H vs Q E hr h=>?_)
 ·obtain ⟨a,ns,rfl,hS,q⟩:=h
  rfl
 ·obtain ⟨a,ns,rfl,hS,q⟩:=h
  have hu:=Co hr
  have hu64:=hr.units
  refine ⟨_,(Be (Bt (i:=1) sc_qbc.nd rfl (Or.inl rfl) (Bo (Aiv T) (hr.mono (by decide)) rfl T.m_qbg T.F_qbg.kp (Aky T) .nil Bs (Ba (pv 0) Bb)))
   (Be (Bt (i:=2) sc_qbc.nd rfl (Or.inl rfl) (Bp Cv (Bo (Lb T) (hr.mono (by decide)) rfl T.m_qi T.F_qi.kp (Oe T) .nil Bs (Ba (pv 0) (Ba Bf Bb))) (Bp Jk Bf Bf)))
   (Be (Bt (i:=3) sc_qbc.nd rfl (Or.inl rfl) (Bp Do Bf (Bp Ur (Bp Cv (Bp Fm (Bo (Lb T) (hr.mono (by decide)) rfl T.m_qi T.F_qi.kp (Oe T) .nil Bs (Ba (pv 0) (Ba Bf Bb))) Bf) (Bp Jk Bf Bf)) (Bp Cv (Bo (Lb T) (hr.mono (by decide)) rfl T.m_qi T.F_qi.kp (Oe T) .nil Bs (Ba (pv 0) (Ba Bf Bb))) Bf))))
   (Be (Bt (i:=4) sc_qbc.nd rfl (Or.inl rfl) (Bo (Ai0 T) (hr.mono (by decide)) rfl T.m_qbd T.F_qbd.kp (Aks T) .nil Bs (Ba (pv 1) (Ba (pv 2) (Ba (pv 3) Bb)))))
   (Be (Bt (i:=5) sc_qbc.nd rfl (Or.inl rfl) (Bo (Akl T) (hr.mono (by decide)) rfl T.m_qz T.F_qz.kp (AkJ T) .nil Bs (Ba (pv 1) (Ba (Bp Cv (Bo (Lb T) (hr.mono (by decide)) rfl T.m_qi T.F_qi.kp (Oe T) .nil Bs (Ba (pv 0) (Ba Bf Bb))) (Bp Jk Bf Bf)) Bb))))
   (Be (Bt (i:=6) sc_qbc.nd rfl (Or.inl rfl) (Bo (AhP T) (hr.mono (by decide)) rfl T.m_qbb T.F_qbb.kp (Ajw T) .nil Bs (Ba (pv 5) (Ba (pv 1) (Ba (pv 4) (Ba (Bp Cv (Bo (Lb T) (hr.mono (by decide)) rfl T.m_qi T.F_qi.kp (Oe T) .nil Bs (Ba (pv 0) (Ba Bf Bb))) (Bp Jk Bf Bf)) Bb))))))
   (Be (Bt (i:=7) sc_qbc.nd rfl (Or.inl rfl) (Cp (Ba (Cq (Ba (Cb (Dy) (pv 1) Bf (fun _ _=>rfl)) (Ba Bu (Ba Bf Bb)))) (Ba (Cq (Ba (Cb (Dy) (pv 1) Bf (fun _ _=>rfl)) (Ba Bu (Ba Bf Bb)))) (Ba (Cq (Ba (Cb (Dy) (pv 1) Bf (fun _ _=>rfl)) (Ba Bu (Ba Bf Bb)))) Bb)))))
   (Be (Yo 1 ["_law_row"] rfl rfl (Dh (Bp Fd (Bp Fd (pv 4) (pv 5)) (Dk (Dx K) (pv 7) Fj (Dl (Bp Cv (Bp Fm (pv 2) Bf) Bf))))) (fun _ _ _ _=>(By (i:=0) (show List.Nodup (["_law_row"]:List Str) by decide +kernel) rfl (Or.inl rfl))) (fun _ _ _ _=>(So (Cj Ui (Cb (Dd K) (pv 0) Bf (fun _ _=>rfl)) Bu (Ci _)))) (fun _ _ _ _=>(pv 0)) (by decide +kernel) (by decide +kernel) rfl (by decide +kernel) (fun _=>rfl) (i:=8) sc_qbc.nd rfl (Or.inl rfl) rfl)
   (Be (Bt (i:=9) sc_qbc.nd rfl (Or.inl rfl) (Bp Cv (pv 2) (Ck (Fw) rfl T.z_len PySem.boot_len (Ba (pv 8) Bb))))
   (Be (Bt (i:=10) sc_qbc.nd rfl (Or.inl rfl) (Dk (Dx K) (Cp (Ba (Cq (Ba (Cb (Dy) (pv 1) Bf (fun _ _=>rfl)) (Ba (Cb (Dy) (pv 1) Bf (fun _ _=>rfl)) Bb))) (Ba (Cq (Ba (Cb (Dy) (pv 1) Bf (fun _ _=>rfl)) (Ba (Cb (Dy) (pv 1) Bf (fun _ _=>rfl)) Bb))) Bb))) Fj (Dl (Bp Cv (Bp Fm (pv 2) Bf) Bf))))
   (Bh (Cc (Cq (Ba (Bp Fd (Dk (Dx K) (pv 8) (Dl (pv 9)) Fj) (Dk (Dx K) (pv 8) Fj (Dl (pv 9)))) (Ba (pv 10) (Ba (pv 6) Bb)))))))))))))))),?_⟩
  try dsimp only [Cg,Bw]
  walk_at "rd"
  refine ⟨a,ns,rfl,hS,fun sl H1 hsl s1 esl=>?_⟩
  have hS1:=s1.seq hS
  have hSg:=AjI ns
  generalize sg ns = S at esl hSg
  walk_at "rd"
  refine Cy ⟨by decide,by decide,by decide⟩ ?_
  refine Cy (by show (0:Int) < 10 ^ 18; decide) ?_
  generalize hc2:cel ns 2 % 10 ^ Int.toNat 18 = c2
  have hc20:0 <= c2:=by rw [<- hc2]; exact Int.emod_nonneg _ (by decide)
  walk_at "rd"
  refine Cy ⟨by decide,by decide⟩ ?_
  walk_at "rd"
  refine Cy ⟨by decide,by decide,by decide⟩ ?_
  refine Cy (by show (0:Int) < 10 ^ 29; decide) ?_
  walk_at "rd"
  refine Cy (by show (0:Int) < 2; decide) ?_
  refine Cy (.inr ⟨by omega,by omega⟩) ?_
  have hun:(0:Int) <= cel ns 3 / 2 % 10 ^ Int.toNat 29 * (cel ns 3 % 2):=Int.mul_nonneg (Int.emod_nonneg _ (by decide)) (Int.emod_nonneg _ (by decide))
  generalize cel ns 3 / 2 % 10 ^ Int.toNat 29 * (cel ns 3 % 2) = un at hun
  walk_at "rd"
  refine ⟨sl,S,c2,1 + un,rfl,esl,by omega,fun ml ms Mk H2 hml s2 eml lm mk mk1=>?_⟩
  have nms:ml ≠ sl:=(Bn esl hml).symm
  replace hS1:=Same.seq s2 hS1
  replace esl:=s2 _ _ esl
  replace s1:=Same.trans s1 s2
  walk_at "rd"
  refine Cy ⟨by decide,by decide,by decide⟩ ?_
  refine Cy (by show (0:Int) < 10 ^ 18; decide) ?_
  walk_at "rd"
  refine ⟨sl,S,_,rfl,esl,fun rl rs R0 H3 hrl s3 erl lr bs bs1=>?_⟩
  have nrs:sl ≠ rl:=Bn esl hrl
  have nrm:ml ≠ rl:=Bn eml hrl
  have frl:H rl = none:=s1.free hrl
  replace hS1:=Same.seq s3 hS1
  replace esl:=s3 _ _ esl
  replace eml:=s3 _ _ eml
  replace lm:=LAt.tripS lm s3
  replace s1:=Same.trans s1 s3
  walk_at "rd"
  refine Cy ⟨by decide,by decide,by decide⟩ ?_
  refine Cy (by show (0:Int) < 10 ^ 40; decide) ?_
  walk_at "rd"
  refine ⟨rl,sl,ml,_,S,rs,ms,R0,Mk,rfl,erl,esl,eml,lr,lm,bs1,⟨mk1,mk⟩,bs,nrs,nrm,fun jl js J rs' R H4 k hjl ch4 ejl lj erl4 lr4 jb hk=>?_⟩
  have njl:H jl = none:=s1.free hjl
  replace s1:Same H H4:=s1.chg ch4 frl
  replace esl:=ch4 _ _ esl (by assumption)
  replace eml:=ch4 _ _ eml (by assumption)
  replace lm:=LAt.tripC lm ch4 erl
  clear lr erl ch4
  obtain ⟨jl1,jl2⟩:=jb.len
  have hMl:=mk.ln
  have hBl:=bs.ln
  have hml':ms.length <= 5:=by rw [lm.1]; exact hMl
  have hrl':rs'.length <= 12:=by rw [lr4.1]; omega
  walk_at "rd"
  refine Ga (SqL.of esl) ?_ (v:=.int (S 17)) (Db (j:=17) (Gh (by omega)))
  walk_at "rd"
  refine ⟨by show 3 <= sizeLine; decide,fun p1 H5 hp1 s5 e5=>?_⟩
  replace esl:=s5 _ _ esl
  walk_at "rd"
  refine Ga (SqL.of esl) ?_ (v:=.int (S 18)) (Db (j:=18) (Gh (by omega)))
  walk_at "rd"
  refine ⟨by show 3 <= sizeLine; decide,fun p2 H6 hp2 s6 e6=>?_⟩
  replace esl:=s6 _ _ esl
  walk_at "rd"
  refine Ga (SqL.of esl) ?_ (v:=.int (S 19)) (Db (j:=19) (Gh (by omega)))
  walk_at "rd"
  refine ⟨by show 3 <= sizeLine; decide,fun p3 H7 hp3 s7 e7=>?_⟩
  walk_at "rd"
  refine ⟨by show 3 <= sizeLine; decide,fun ol H8 hol s8 eol=>?_⟩
  have s48:=((s5.trans s6).trans s7).trans s8
  have lo:LAt TripAt H8 [.ref p1,.ref p2,.ref p3] (Fa S):=⟨rfl,fun i x y e1 e2=>by
   match i,e1,e2 with
   | 0,e1,e2=>cases e1; cases e2; exact ⟨p1,rfl,s8 _ _ (s7 _ _ (s6 _ _ e5))⟩
   | 1,e1,e2=>cases e1; cases e2; exact ⟨p2,rfl,s8 _ _ (s7 _ _ e6)⟩
   | 2,e1,e2=>cases e1; cases e2; exact ⟨p3,rfl,s8 _ _ e7⟩
   | _ + 3,e1,_=>simp at e1⟩
  replace esl:=s7 _ _ esl
  replace esl:=s8 _ _ esl
  replace s1:=Same.trans s1 s48
  replace eml:=s48 _ _ eml
  replace lm:=LAt.tripS lm s48
  replace erl4:=s48 _ _ erl4
  replace lr4:=LAt.tripS lr4 s48
  replace ejl:=s48 _ _ ejl
  replace lj:=LAt.trjS lj s48
  clear s5 s6 s7 s8 e5 e6 e7 s48 hp1 hp2 hp3
  walk_at "rd"
  refine Ta ?_
  refine AdP ?_
  walk_at "rd"
  walk_at "rd"
  refine Zi eml erl4 (Nat.le_of_lt (Fh (by omega))) fun q1 H9 hq1 s9 e9=>?_
  replace eol:=s9 _ _ eol
  walk_at "rd"
  refine Cy ⟨by decide,by decide⟩ ?_
  walk_at "rd"
  refine Cy (by show (0:Int) < 4; decide) ?_
  walk_at "rd"
  obtain ⟨x,ex⟩:∃ x:Nat,c2 / 3125 % 4 = (x:Int):=⟨(c2 / 3125 % 4).toNat,by omega⟩
  rw [ex]
  walk_at "rd"
  refine Ux (SqL.of eol) Vx fun q2 H10 hq2 s10 e10=>?_
  walk_at "rd"
  walk_at "rd"
  refine Zi (s10 _ _ e9) e10 (Nat.le_of_lt (Fh (by rw [List.length_append,List.length_take]; show ms.length + rs'.length + min x 3 <= 1000; omega))) fun q3 H11 hq3 s11 e11=>?_
  have s911:=(s9.trans s10).trans s11
  replace s1:=Same.trans s1 s911
  replace esl:=s911 _ _ esl
  replace lm:=LAt.tripS lm s911
  replace lr4:=LAt.tripS lr4 s911
  replace lo:=LAt.tripS lo s911
  replace ejl:=s911 _ _ ejl
  replace lj:=LAt.trjS lj s911
  clear s9 s10 s11 s911 e9 e10 eol erl4 eml hq1 hq2
  have lA:=(lm.append lr4).append (lo.take x)
  have hlA:(ms ++ rs' ++ List.take x [V.ref p1,V.ref p2,V.ref p3]).length <= 20:=by rw [List.length_append,List.length_append,List.length_take]; show ms.length + rs'.length + min x 3 <= 20; omega
  refine ⟨q3,rfl,⟨_,SqL.of e11⟩,fun D hD=>CP.list (ms ++ rs' ++ List.take x [V.ref p1,V.ref p2,V.ref p3]) (fun i H2=>Same H11 H2/\∃ ys,H2 D = some (.lst ys)/\LAt TripAt H2 ys (((Mk ++ R ++ (Fa S).take x).take i).filter fun s=>!decide (s.2.1 = "plain"))) ⟨Same.laid hD,[],Bk,LAt.nil⟩ (fun i H2 _ h=>SqL.of (h.1 _ _ e11)) ?_ ?_⟩
  ·rintro n x2 H2 N hn ⟨s2,ys,ey2,ly⟩ hN
   obtain ⟨s,es,pa,rfl,hpa⟩:=lA.get hn
   have hpa2:=s2 _ _ hpa
   have hyl:ys.length <= 20:=by
    have:=(List.getElem?_eq_some_iff.mp hn).1
    rw [ly.1]
    refine Nat.le_trans (List.length_filter_le _ _) ?_
    rw [List.length_take]; omega
   walk_at "cs"
   walk_at "rd"
   refine ⟨rfl,?_⟩
   walk_at "rd"
   refine Tc hpa2 ?_ rfl
   walk_at "rd"
   have et:((Mk ++ R ++ (Fa S).take x).take (n + 1)).filter (fun s:Sg=>!decide (s.2.1 = ("plain" : Str))) = ((Mk ++ R ++ (Fa S).take x).take n).filter (fun s:Sg=>!decide (s.2.1 = ("plain" : Str))) ++ [s].filter (fun s:Sg=>!decide (s.2.1 = ("plain" : Str))):=by rw [Dj es,List.filter_append]
   refine Nm (fun h=>?_) (fun h=>?_)
   ·walk_at "rd"
    refine ⟨ys,ey2,Fh (by omega),hN _ ⟨fun q' o z=>?_,_,Bk,?_⟩⟩
    ·rw [Bg (Bn z hD)]; exact s2 _ _ z
    ·rw [et,List.filter_cons,if_pos h]
     exact LAt.snoc (ly.mono fun u v z=>z.mono fun q' zs w=>by rw [Bg (Df w ey2 (by intro z; cases z))]; exact w) ⟨pa,rfl,by rw [Bg (Df hpa2 ey2 (by intro z; cases z))]; exact hpa2⟩
   ·refine hN _ ⟨s2,ys,ey2,?_⟩
    rw [et,List.filter_cons,if_neg h,List.filter_nil,List.append_nil]
    exact ly
  ·rintro H12 ⟨s12,ys,ey,ly⟩
   rw [lA.1,List.take_length] at ly
   replace ly:LAt TripAt H12 ys (Gq S Mk R x):=ly
   have hyl:ys.length <= 20:=by
    rw [ly.1]
    refine Nat.le_trans (List.length_filter_le _ _) ?_
    rw [<- lA.1]; exact hlA
   have hyp:0 < ys.length:=by
    rw [ly.1]
    obtain ⟨m,hm⟩:∃ m,m ∈ Mk:=List.exists_mem_of_ne_nil _ mk1
    refine List.length_pos_of_mem (a:=m) (List.mem_filter.mpr ⟨List.mem_append_left _ (List.mem_append_left _ hm),?_⟩)
    obtain ⟨i,hi⟩:=List.getElem?_of_mem hm
    rw [(mk.at' i m hi).2.1]; decide +kernel
   replace s1:=Same.trans s1 s12
   replace esl:=s12 _ _ esl
   replace ejl:=s12 _ _ ejl
   replace lj:=LAt.trjS lj s12
   clear lA lm lr4 lo e11 s12 hlA
   walk_at "rd"
   refine Cy (by show (0:Int) < (ys.length:Nat); omega) ?_
   obtain ⟨t',et,htl⟩:∃ t':Nat,c2 % (ys.length:Nat) = (t':Int)/\t' < ys.length:=by
    have z1:=Int.emod_nonneg c2 (b:=(ys.length:Nat)) (by omega)
    have z2:=Int.emod_lt_of_pos c2 (b:=(ys.length:Nat)) (by omega)
    exact ⟨(c2 % (ys.length:Nat)).toNat,by omega,by omega⟩
   rw [et]
   walk_at "rd"
   refine Ga (SqL.of esl) ?_ (v:=.int (S 20)) (Db (j:=20) (Gh (by omega)))
   walk_at "rd"
   refine Ga (SqL.of esl) ?_ (v:=.int (S 21)) (Db (j:=21) (Gh (by omega)))
   walk_at "rd"
   refine ⟨by show 2 <= sizeLine; decide,fun p1 H13 hp1 s13 e13=>?_⟩
   replace esl:=s13 _ _ esl
   walk_at "rd"
   refine Ga (SqL.of esl) ?_ (v:=.int (S 23)) (Db (j:=23) (Gh (by omega)))
   walk_at "rd"
   refine Ga (SqL.of esl) ?_ (v:=.int (S 22)) (Db (j:=22) (Gh (by omega)))
   walk_at "rd"
   refine ⟨by show 2 <= sizeLine; decide,fun p2 H14 hp2 s14 e14=>?_⟩
   walk_at "rd"
   refine ⟨by show 2 <= sizeLine; decide,fun l1 H15 hl1 s15 e15=>?_⟩
   walk_at "rd"
   refine Cy ⟨by decide,by decide⟩ ?_
   walk_at "rd"
   refine Cy (by show (0:Int) < 3; decide) ?_
   walk_at "rd"
   obtain ⟨y,ey3⟩:∃ y:Nat,c2 / 12500 % 3 = (y:Int):=⟨(c2 / 12500 % 3).toNat,by omega⟩
   rw [ey3]
   walk_at "rd"
   refine Ux (SqL.of e15) Vx fun l1' H16 hl1' s16 e16=>?_
   have lM:LAt PairAt H16 [.ref p1,.ref p2] (Fv S):=⟨rfl,fun i x y e1 e2=>by
    match i,e1,e2 with
    | 0,e1,e2=>cases e1; cases e2; exact ⟨p1,rfl,s16 _ _ (s15 _ _ (s14 _ _ e13))⟩
    | 1,e1,e2=>cases e1; cases e2; exact ⟨p2,rfl,s16 _ _ (s15 _ _ e14)⟩
    | _ + 2,e1,_=>simp at e1⟩
   have sAll:=((s13.trans s14).trans s15).trans s16
   have f1:H l1' = none:=(s1.trans ((s13.trans s14).trans s15)).free hl1'
   replace s1:=Same.trans s1 sAll
   replace ey:=sAll _ _ ey
   replace ly:=LAt.tripS ly sAll
   replace ejl:=sAll _ _ ejl
   replace lj:=LAt.trjS lj sAll
   have lM':=lM.take y
   clear sAll lM s13 s14 s15 s16 e13 e14 e15 hp1 hp2 hl1 hl1' esl
   walk_at "rd"
   walk_at "rd"
   refine Ux (SqL.of ey) (AgN (by omega)) fun q4 H17 hq4 s17 e17=>?_
   walk_at "rd"
   walk_at "rd"
   refine Ux (SqL.of (s17 _ _ ey)) Vx fun q5 H18 hq5 s18 e18=>?_
   walk_at "rd"
   walk_at "rd"
   refine Zi (s18 _ _ e17) e18 (Nat.le_of_lt (Fh (by rw [List.length_drop,List.length_take]; omega))) fun l0 H19 hl0 s19 e19=>?_
   have s1719:=(s17.trans s18).trans s19
   have f0:H l0 = none:=(s1.trans (s17.trans s18)).free hl0
   have l0':LAt TripAt H19 (ys.drop t' ++ ys.take t') (Lr t' (Gq S Mk R x)):=((ly.tripS s1719).drop t').append ((ly.tripS s1719).take t')
   replace s1:=Same.trans s1 s1719
   replace e16:=s1719 _ _ e16
   replace lM':=LAt.pairS lM' s1719
   replace ejl:=s1719 _ _ ejl
   replace lj:=LAt.trjS lj s1719
   clear s17 s18 s19 s1719 e17 e18 hq4 hq5 hl0 ey ly
   walk_at "rd"
   refine ⟨by show 3 <= sizeLine; decide,fun tp H20 htp s20 e20=>?_⟩
   exact q tp l0 l1' jl _ _ js _ _ J H20 (s1.trans s20) e20 (s20 _ _ e19) (s20 _ _ e16) (s20 _ _ ejl) (l0'.tripS s20) (lM'.pairS s20) (lj.trjS s20) f0 f1 njl (AeI hSg mk mk1 bs jb hk)
  all_goals decide
def Aew:PSp:=fun ps P=>∃ U M J cs,ps = [.lst (List.map .int cs),.tup [.lst (List.map sgP U),.lst (List.map prP M),.lst (List.map jnP J)]]/\Fl U M J/\cs.length <= 63/\∀ ts:List Int,ts.length = cs.length->P (.lst (List.map .int ts))
theorem Akh (T:Txt K mg t):Binds K t.d_qbj ["_law_cells","_law_lists_here"] []:=T.F_qbj.binds (ps:=["_law_cells","_law_lists_here"]) fun _ _ _ _ _ _ us hl=>match us,hl with | [_,_],_=>rfl
theorem AiY (T:Txt K mg t):FnOk P w K mg base (CX1 P w) 1 t.f_qbj t.d_qbj ["_law_cells","_law_lists_here"] (spOf K t.C_Book [false,false] .fr Aew):=by
 refine T.F_qbj.ok1 sc_qbj (fun vs H Q E h=>h.len) (fun cdv A outer s H vs Q E hr h=>?_)
 have hu:=Co hr
 have hu64:=hr.units
 refine ⟨_,(Be (Bt (i:=2) sc_qbj.nd rfl (Or.inl rfl) (Bp Fd (Tx 1 ["_law_row"] rfl rfl (Dh (Cb (Dd K) (pv 1) Bf (fun _ _=>rfl))) (fun _ _ _ _=>(By (i:=0) (show List.Nodup (["_law_row"]:List Str) by decide +kernel) rfl (Or.inl rfl))) (fun _ _ _ _=>(So (Cj Ui (Cb (Dd K) (pv 0) Bf (fun _ _=>rfl)) Bu (Ci _)))) (fun _ _ _ _=>(Cb (Dd K) (pv 0) Bf (fun _ _=>rfl))) (by decide +kernel) (by decide +kernel) rfl (by decide +kernel)) (Tx 1 ["_law_join"] rfl rfl (Dh (Cb (Dd K) (pv 1) Bf (fun _ _=>rfl))) (fun _ _ _ _=>(By (i:=0) (show List.Nodup (["_law_join"]:List Str) by decide +kernel) rfl (Or.inl rfl))) (fun _ _ _ _=>Vi) (fun _ _ _ _=>(Cb (Dd K) (pv 0) Bf (fun _ _=>rfl))) (by decide +kernel) (by decide +kernel) rfl (by decide +kernel))))
   (Be (Bt (i:=2) sc_qbj.nd rfl (Or.inl rfl) (Bp Fd (pv 2) (Tx 1 ["_law_join"] rfl rfl (Dh (Cb (Dd K) (pv 1) Bf (fun _ _=>rfl))) (fun _ _ _ _=>(By (i:=0) (show List.Nodup (["_law_join"]:List Str) by decide +kernel) rfl (Or.inl rfl))) (fun _ _ _ _=>Vi) (fun _ _ _ _=>(Cb (Dd K) (pv 0) Bf (fun _ _=>rfl))) (by decide +kernel) (by decide +kernel) rfl (by decide +kernel))))
   (Be (Yo 1 ["_law_row"] rfl rfl (Dh (Cb (Dd K) (pv 1) Bf (fun _ _=>rfl))) (fun _ _ _ _=>(By (i:=0) (show List.Nodup (["_law_row"]:List Str) by decide +kernel) rfl (Or.inl rfl))) (fun _ _ _ _=>(So (Cj Fr (Cb (Dd K) (pv 0) Bf (fun _ _=>rfl)) Bu (Ci _)))) (fun _ _ _ _=>(Cb (Dd K) (pv 0) Bf (fun _ _=>rfl))) (by decide +kernel) (by decide +kernel) rfl (by decide +kernel) (fun _=>rfl) (i:=3) sc_qbj.nd rfl (Or.inl rfl) rfl)
   (Be (Dm PassesOwn.leaving rfl (Dh (Cb (Dd K) (pv 1) Bf (fun _ _=>rfl))) (By (i:=4) sc_qbj.nd rfl (Or.inl rfl))
    (Bh (Bt (i:=2) sc_qbj.nd rfl (Or.inl rfl) (Bp Fd (pv 2) (Cp (Ba (Cb (Dd K) (pv 4) Bf (fun _ _=>rfl)) (Ba (Cb (Dd K) (pv 4) Bf (fun _ _=>rfl)) Bb)))))))
   (Be (Bt (i:=5) sc_qbj.nd rfl (Or.inl rfl) (Cp Bb))
   (Be (Dm PassesOwn.leaving rfl (Dh (pv 0)) (By (i:=6) sc_qbj.nd rfl (Or.inl rfl))
    (Bh (Di (PW.pt (Td (Cj Fr (Bp Cv (pv 6) Bf) Bf (Ci _)) (Sb (PW.pt (Uf (Cj Fr (Ck (Fp K) rfl T.z_len PySem.boot_len (Ba (pv 2) Bb)) Bf (Ci _)) (Vz (Cj Fr (Bp Cv (pv 6) Bf) Bf (Ci _))))))))
    (Bh (Cl (Jz PySem.F.plainAttrs_list PySem.F.slot_list_append PySem.F.type_list_append Fe (pv 5) (Ba (Bp Cv (Bp Fm (pv 6) Bf) (Bp Jk Bf Bf)) Bb))))
    (Bh (Di (Cj Fr (Bp Cv (pv 6) Bf) Bf (Ci _))
    (Bh (Cl (Jz PySem.F.plainAttrs_list PySem.F.slot_list_append PySem.F.type_list_append Fe (pv 5) (Ba (Cb (Du K) (pv 2) (Bp Cv (Bp Fm (pv 6) Bf) (Ck (Fp K) rfl T.z_len PySem.boot_len (Ba (pv 2) Bb))) (fun _ _=>rfl)) Bb))))
    (Bh (Cl (Jz PySem.F.plainAttrs_list PySem.F.slot_list_append PySem.F.type_list_append Fe (pv 5) (Ba (Cb (Du K) (pv 3) (Bp Cv (Bp Fm (pv 6) Bf) (Ck (Fp K) rfl T.z_len PySem.boot_len (Ba (pv 3) Bb))) (fun _ _=>rfl)) Bb)))))))))
   (Bh (Cc (pv 5))))))))),?_⟩
 try dsimp only [Cg,Bw]
 refine Gi h (by decide) (Bv (Ct (EF.eu (Gb (EF.eb (Tk (EU.eb (Dq Bc (EU.eb Bq))) (Dg (top:=1)) (Ds (EU.eb (Xg (EU.eb (Dq Bc (EU.eb Bq))) (EU.eb Da)))) (Dq Bc (EU.eb Bq)))) (EF.eb (Tk (EU.eb (Dq Bc (EU.eb Bq))) (Dg (top:=1)) Aa0 (Dq Bc (EU.eb Bq)))))))
   (Bv (Ct (EF.eu (Gb Bc (EF.eb (Tk (EU.eb (Dq Bc (EU.eb Bq))) (Dg (top:=1)) Aa0 (Dq Bc (EU.eb Bq)))))))
   (Bv (Ct (EF.eu (Tk (EU.eb (Dq Bc (EU.eb Bq))) (Dg (top:=1)) (Ds (EU.eb (Gu (EU.eb (Dq Bc (EU.eb Bq))) (EU.eb Da)))) (Dq Bc (EU.eb Bq)))))
   (Bv (Ow (Dq Bc (EU.eb Bq)) (Dg (top:=7))
    (Ct (EF.eu (Gb Bc (EF.eb (Dw 2 (Bx (Dq Bc (EU.eb Bq)) (Bx (Dq Bc (EU.eb Bq)) Bl))))))))
   (Bv (Oo (Dw 0 Bl))
   (Bv (Agj (Dg (top:=7))
    (Ff (Tj (Ds (EU.eb (Gu (EU.eb (Js (fun _ _ _=>.int _) Bc (EU.eb Bq))) (EU.eb Bq)))) (Uz (Ds (EU.eb (Gu (EU.eb (Og (Bz Bc Bl))) (EU.eb Bq)))) (Ds (EU.eb (Gu (EU.eb (Js (fun _ _ _=>.int _) Bc (EU.eb Bq))) (EU.eb Bq))))))
    (Ol (Bx (Js (fun _ _ _=>.int _) (EU.eb (Js (fun _ _ _=>.int _) Bc (EU.eb Bq))) (EU.eb (Js (fun _ _ _=>.int _) (EU.eb Bq) (EU.eb Bq)))) Bl))
    (Ff (Ds (EU.eb (Gu (EU.eb (Js (fun _ _ _=>.int _) Bc (EU.eb Bq))) (EU.eb Bq))))
    (Ol (Bx (Fs Bc (EU.eb (Js (fun _ _ _=>.int _) (EU.eb (Js (fun _ _ _=>.int _) Bc (EU.eb Bq))) (EU.eb (Og (Bz Bc Bl)))))) Bl))
    (Ol (Bx (Fs Bc (EU.eb (Js (fun _ _ _=>.int _) (EU.eb (Js (fun _ _ _=>.int _) Bc (EU.eb Bq))) (EU.eb (Og (Bz Bc Bl)))))) Bl)))))
   Os)))))) (fun ps P hp=>?_)
 clear h hu hu64 hr
 obtain ⟨U,M,J,cs,rfl,bk,hl,q⟩:=hp
 simp only [Dv,List.zipWith_cons_cons,List.zipWith_nil_left,List.zipWith_nil_right,List.length_cons,List.length_nil,Nat.zero_add,Nat.reduceAdd,Nat.reduceSub,List.replicate_succ,List.replicate_zero,Bool.false_eq_true,if_false,if_true,List.cons_append,List.nil_append,Gk]
 have Ul:U.length + 2 * M.length <= 60:=bk.ln
 have Jl:=bk.jl
 walk_at "pr"
 refine ⟨by rw [List.length_map]; omega,?_⟩
 refine Sz (f:=fun s:Sg=>if (!decide (s.2.1 = "mark")) = true then some (.int s.1) else none) ?_ (fun d hd Z hZ=>?_)
 rotate_left
 ·walk_at "pr"
  refine Nm (fun h=>?_) (fun h=>?_)
  ·rw [if_pos h] at hZ
   walk_at "pr"
   exact hZ
  ·rw [if_neg h] at hZ
   exact hZ
 rw [Jm]
 walk_at "pr"
 refine ⟨by rw [List.length_map]; omega,?_⟩
 refine Sz (f:=fun s:Jn=>some (.int s.1)) ?_ (fun d hd Z hZ=>?_)
 rotate_left
 ·walk_at "pr"
  exact hZ
 rw [Zl,AdH (g:=fun s:Sg=>s.1)]
 walk_at "pr"
 rotate_left
 ·have:=List.length_filter_le (fun s:Sg=>!decide (s.2.1 = "mark")) U
  simp only [List.length_map]; omega
 rw [<- List.map_append]
 refine ⟨by rw [List.length_map]; omega,?_⟩
 refine Sz (f:=fun s:Jn=>some (.int s.2.1)) ?_ (fun d hd Z hZ=>?_)
 rotate_left
 ·walk_at "pr"
  exact hZ
 rw [Zl]
 have l1:(List.map (fun s:Sg=>s.1) (U.filter fun s=>!decide (s.2.1 = "mark")) ++ J.map (·.1)).length <= 67:=by
  have:=List.length_filter_le (fun s:Sg=>!decide (s.2.1 = "mark")) U
  simp only [List.length_append,List.length_map]; omega
 generalize (List.map (fun s:Sg=>s.1) (U.filter fun s=>!decide (s.2.1 = "mark")) ++ J.map (·.1)) = xs at l1
 walk_at "pr"
 rotate_left
 ·simp only [List.length_map]; omega
 rw [<- List.map_append]
 have l2:(xs ++ J.map (·.2.1)).length <= 74:=by
  simp only [List.length_append,List.length_map]; omega
 generalize xs ++ J.map (·.2.1) = ys at l2
 refine ⟨by rw [List.length_map]; omega,?_⟩
 refine Sz (f:=fun s:Sg=>if (decide (s.2.1 = "mark")) = true then some (.int s.1) else none) ?_ (fun d hd Z hZ=>?_)
 rotate_left
 ·walk_at "pr"
  refine Nm (fun h=>?_) (fun h=>?_)
  ·rw [if_pos h] at hZ
   walk_at "pr"
   exact hZ
  ·rw [if_neg h] at hZ
   exact hZ
 rw [Jm,AdH (g:=fun s:Sg=>s.1)]
 have l3:0 < (List.map (fun s:Sg=>s.1) (U.filter fun s=>decide (s.2.1 = "mark"))).length:=by
  obtain ⟨s,hs,e⟩:=bk.mr
  rw [List.length_map]
  exact List.length_pos_of_mem (List.mem_filter.mpr ⟨hs,by simpa using e⟩)
 generalize List.map (fun s:Sg=>s.1) (U.filter fun s=>decide (s.2.1 = "mark")) = ks at l3
 walk_at "pr"
 refine ⟨fun k ρ=>∃ (zs:List Int) (v4 v5 v6:Sl),ρ = [.bo (.lst (cs.map .int)),.bo (.tup [.lst (U.map sgP),.lst (M.map prP),.lst (J.map jnP)]),.sh (.lst (zs.map .int)),.sh (.lst (ks.map .int)),v4,v5,v6]/\zs.length <= 74 + 2 * k,⟨ys,_,_,_,rfl,by omega⟩,?_,?_⟩
 ·rintro k p ρ hp ⟨zs,v4,v5,v6,rfl,lz⟩
  rw [List.getElem?_map] at hp
  obtain ⟨m,hm,rfl⟩:=Option.map_eq_some_iff.mp hp
  have hk:k < M.length:=(List.getElem?_eq_some_iff.mp hm).1
  walk_at "pr"
  rotate_left
  ·simp only [List.length_map,List.length_cons,List.length_nil]; omega
  exact ⟨zs ++ [m.1,m.2],_,_,_,by rw [List.map_append]; rfl,by simp only [List.length_append,List.length_cons,List.length_nil]; omega⟩
 rintro ρ ⟨zs,v4,v5,v6,rfl,lz⟩
 walk_at "pr"
 refine ⟨fun k ρ=>∃ (ts:List Int) (v4 v6:Sl),ρ = [.bo (.lst (cs.map .int)),.bo (.tup [.lst (U.map sgP),.lst (M.map prP),.lst (J.map jnP)]),.sh (.lst (zs.map .int)),.sh (.lst (ks.map .int)),v4,.ow (.lst (ts.map .int)),v6]/\ts.length = k,⟨[],_,_,rfl,rfl⟩,?_,?_⟩
 ·rintro k p ρ hp ⟨ts,v4,v6,rfl,lt⟩
  rw [List.getElem?_map] at hp
  obtain ⟨c,hc,rfl⟩:=Option.map_eq_some_iff.mp hp
  have hk:k < cs.length:=(List.getElem?_eq_some_iff.mp hc).1
  have put:∀ x:Int,∃ (ts':List Int) (v4' v6':Sl),([.bo (.lst (cs.map .int)),.bo (.tup [.lst (U.map sgP),.lst (M.map prP),.lst (J.map jnP)]),.sh (.lst (zs.map .int)),.sh (.lst (ks.map .int)),v4,.ow (.lst (ts.map .int ++ [.int x])),.sh (.int c)]:Bm) = [.bo (.lst (cs.map .int)),.bo (.tup [.lst (U.map sgP),.lst (M.map prP),.lst (J.map jnP)]),.sh (.lst (zs.map .int)),.sh (.lst (ks.map .int)),v4',.ow (.lst (ts'.map .int)),v6']/\ts'.length = k + 1:=fun x=>⟨ts ++ [x],v4,.sh (.int c),by rw [List.map_append]; rfl,by simp [lt]⟩
  have ixA:∀ (l:List Int),0 < l.length->∃ x:Int,L2.atI (l.map PV.int) (c / 18 % (l.length:Int)) = some (.int x):=fun l h0=>by
   have h1:=Int.emod_nonneg (c / 18) (show (l.length:Int) ≠ 0 by omega)
   have h2:=Int.emod_lt_of_pos (c / 18) (show (0:Int) < l.length by omega)
   obtain ⟨j,hj⟩:=Int.eq_ofNat_of_zero_le h1
   rw [hj] at h2 ⊢
   have h3:j < l.length:=by omega
   exact ⟨l[j],Db (by rw [List.getElem?_map,List.getElem?_eq_getElem h3]; rfl)⟩
  walk_at "pr"
  rotate_left
  ·decide
  have mrk:∀ P:PV->Prop,(∀ x:Int,P (.int x))->Ua (.lst (ks.map .int)) (.int (c / 18 % ((ks.map PV.int).length:Int))) P:=fun P h=>by
   obtain ⟨x,hx⟩:=ixA ks l3
   rw [List.length_map]
   exact Af3 hx (h x)
  refine Nm (fun h=>?_) (fun h=>?_)
  ·walk_at "pr"
   all_goals try (first | decide | exact ⟨by decide,by decide⟩ | exact ⟨by decide,by decide,by decide⟩ | (rw [List.length_map]; omega))
   exact put _
  ·walk_at "pr"
   refine Nm (fun h1=>?_) (fun h1=>?_)
   ·walk_at "pr"
    all_goals try (first | decide | exact ⟨by decide,by decide⟩ | exact ⟨by decide,by decide,by decide⟩ | (rw [List.length_map]; omega))
    refine Nm (fun h2=>?_) (fun h2=>?_)
    ·walk_at "pr"
     all_goals try (first | decide | exact ⟨by decide,by decide⟩ | exact ⟨by decide,by decide,by decide⟩ | (rw [List.length_map]; omega))
     exact put _
    ·walk_at "pr"
     all_goals try (first | decide | exact ⟨by decide,by decide⟩ | exact ⟨by decide,by decide,by decide⟩ | (rw [List.length_map]; omega))
     rw [if_neg h2]
     walk_at "pr"
     all_goals try (first | decide | exact ⟨by decide,by decide⟩ | exact ⟨by decide,by decide,by decide⟩ | (rw [List.length_map]; omega))
     all_goals try (rw [List.length_map]; exact Int.natCast_pos.mpr l3)
     refine mrk _ fun x=>?_
     walk_at "pr"
     all_goals try (first | decide | exact ⟨by decide,by decide⟩ | exact ⟨by decide,by decide,by decide⟩ | (rw [List.length_map]; omega))
     exact put _
   ·walk_at "pr"
    all_goals try (first | decide | exact ⟨by decide,by decide⟩ | exact ⟨by decide,by decide,by decide⟩ | (rw [List.length_map]; omega))
    refine Nm (fun h2=>?_) (fun h2=>?_)
    ·have zp:0 < zs.length:=by
      rcases Nat.eq_zero_or_pos zs.length with z | z
      ·exact absurd (decide_eq_true (by rw [List.length_map,z]; rfl)) h1
      ·exact z
     walk_at "pr"
     all_goals try (first | decide | exact ⟨by decide,by decide⟩ | exact ⟨by decide,by decide,by decide⟩ | (rw [List.length_map]; omega))
     all_goals try (rw [List.length_map]; exact Int.natCast_pos.mpr zp)
     obtain ⟨x,hx⟩:=ixA zs zp
     rw [List.length_map]
     refine Af3 hx ?_
     walk_at "pr"
     all_goals try (first | decide | exact ⟨by decide,by decide⟩ | exact ⟨by decide,by decide,by decide⟩ | (rw [List.length_map]; omega))
     exact put _
    ·walk_at "pr"
     all_goals try (first | decide | exact ⟨by decide,by decide⟩ | exact ⟨by decide,by decide,by decide⟩ | (rw [List.length_map]; omega))
     all_goals try (rw [List.length_map]; exact Int.natCast_pos.mpr l3)
     refine mrk _ fun x=>?_
     walk_at "pr"
     all_goals try (first | decide | exact ⟨by decide,by decide⟩ | exact ⟨by decide,by decide,by decide⟩ | (rw [List.length_map]; omega))
     exact put _
 rintro ρ ⟨ts,v4,v6,rfl,lt⟩
 rw [List.length_map] at lt
 walk_at "pr"
 exact q ts lt
def AcL:PSp:=fun ps P=>∃ U m j,ps = [.tup [.lst (List.map sgP U),m,j]]/\(U.map (·.1)).Nodup/\U.length <= 1000/\P (.dk (rkD U))
theorem AjV (T:Txt K mg t):Binds K t.d_qbf ["_law_lists_here"] []:=T.F_qbf.binds (ps:=["_law_lists_here"]) fun _ _ _ _ _ _ us hl=>match us,hl with | [_],_=>rfl
theorem Ah6 (T:Txt K mg t):FnOk P w K mg base (CX1 P w) 1 t.f_qbf t.d_qbf ["_law_lists_here"] (spOf K t.C_Book [false] .fr AcL):=by
 refine T.F_qbf.ok1 sc_qbf (fun vs H Q E h=>h.len) (fun cdv A outer s H vs Q E hr h=>?_)
 have hu:=Co hr
 have hu64:=hr.units
 refine ⟨_,(Be (Bt (i:=1) sc_qbf.nd rfl (Or.inl rfl) Jx)
   (Be (Dm PassesOwn.leaving rfl (Dh (Cb (Dd K) (pv 0) Bf (fun _ _=>rfl))) (Th (K':=K) (n:=3) rfl rfl (Cm (By (i:=2) sc_qbf.nd rfl (Or.inl rfl)) (Cm (By (i:=3) sc_qbf.nd rfl (Or.inl rfl)) (Cm (By (i:=4) sc_qbf.nd rfl (Or.inl rfl)) Gd))))
    (Bh (Gn hu (pv 1) (pv 2) (pv 4) rfl)))
   (Bh (Cc (pv 1))))),?_⟩
 try dsimp only [Cg,Bw]
 refine Gi h (by decide) (Bv (Oo AaM)
   (Bv (Ow (Dq Bc (EU.eb Bq)) (Up (Fu (Dg (top:=5)) (Fu (Dg (top:=5)) (Fu (Dg (top:=5)) Tg))))
    (AaA Bc Cz))
   Os)) (fun ps P hp=>?_)
 clear h hu hu64 hr
 obtain ⟨U,m,j,rfl,nd,hl,q⟩:=hp
 simp only [Dv,List.zipWith_cons_cons,List.zipWith_nil_left,List.zipWith_nil_right,List.length_cons,List.length_nil,Nat.zero_add,Nat.reduceAdd,Nat.reduceSub,List.replicate_succ,List.replicate_zero,Bool.false_eq_true,if_false,if_true,List.cons_append,List.nil_append,Gk]
 walk_at "pr"
 refine ⟨fun k ρ=>∃ v2 v3 v4,ρ = [.bo (.tup [.lst (U.map sgP),m,j]),.ow (.dk (rkD (U.take k))),v2,v3,v4],⟨_,_,_,rfl⟩,?_,?_⟩
 ·rintro k p ρ hp ⟨v2,v3,v4,rfl⟩
  rw [List.getElem?_map] at hp
  obtain ⟨s,hs,rfl⟩:=Option.map_eq_some_iff.mp hp
  walk_at "pr"
  rotate_left
  ·unfold rkD; rw [List.length_map,List.length_take]; omega
  rw [AgD nd hs]
  exact ⟨_,_,_,rfl⟩
 ·rintro ρ ⟨v2,v3,v4,rfl⟩
  rw [List.length_map,List.take_length]
  walk_at "pr"
  exact q
def Ac4:PSp:=fun ps P=>∃ a m J,ps = [.tup [a,m,.lst (List.map jnP J)]]/\(J.map (·.1)).Nodup/\J.length <= 1000/\P (.dk (ptD J))
theorem Akb (T:Txt K mg t):Binds K t.d_qbe ["_law_lists_here"] []:=T.F_qbe.binds (ps:=["_law_lists_here"]) fun _ _ _ _ _ _ us hl=>match us,hl with | [_],_=>rfl
theorem Ai7 (T:Txt K mg t):FnOk P w K mg base (CX1 P w) 1 t.f_qbe t.d_qbe ["_law_lists_here"] (spOf K t.C_Book [false] .fr Ac4):=by
 refine T.F_qbe.ok1 sc_qbe (fun vs H Q E h=>h.len) (fun cdv A outer s H vs Q E hr h=>?_)
 have hu:=Co hr
 have hu64:=hr.units
 refine ⟨_,(Be (Bt (i:=1) sc_qbe.nd rfl (Or.inl rfl) Jx)
   (Be (Dm PassesOwn.leaving rfl (Dh (Cb (Dd K) (pv 0) Bf (fun _ _=>rfl))) (Th (K':=K) (n:=3) rfl rfl (Cm (By (i:=2) sc_qbe.nd rfl (Or.inl rfl)) (Cm (By (i:=3) sc_qbe.nd rfl (Or.inl rfl)) (Cm (By (i:=4) sc_qbe.nd rfl (Or.inl rfl)) Gd))))
    (Bh (Gn hu (pv 1) (pv 2) (Cq (Ba (pv 3) (Ba (pv 4) Bb))) rfl)))
   (Bh (Cc (pv 1))))),?_⟩
 try dsimp only [Cg,Bw]
 refine Gi h (by decide) (Bv (Oo AaM)
   (Bv (Ow (Dq Bc (EU.eb Bq)) (Up (Fu (Dg (top:=5)) (Fu (Dg (top:=5)) (Fu (Dg (top:=5)) Tg))))
    (AaA Bc (Fk 2 (Bx Cz (Bx Cz Bl)))))
   Os)) (fun ps P hp=>?_)
 clear h hu hu64 hr
 obtain ⟨a,m,J,rfl,nd,hl,q⟩:=hp
 simp only [Dv,List.zipWith_cons_cons,List.zipWith_nil_left,List.zipWith_nil_right,List.length_cons,List.length_nil,Nat.zero_add,Nat.reduceAdd,Nat.reduceSub,List.replicate_succ,List.replicate_zero,Bool.false_eq_true,if_false,if_true,List.cons_append,List.nil_append,Gk]
 walk_at "pr"
 refine ⟨fun k ρ=>∃ v2 v3 v4,ρ = [.bo (.tup [a,m,.lst (J.map jnP)]),.ow (.dk (ptD (J.take k))),v2,v3,v4],⟨_,_,_,rfl⟩,?_,?_⟩
 ·rintro k p ρ hp ⟨v2,v3,v4,rfl⟩
  rw [List.getElem?_map] at hp
  obtain ⟨s,hs,rfl⟩:=Option.map_eq_some_iff.mp hp
  walk_at "pr"
  rotate_left
  ·unfold ptD; rw [List.length_map,List.length_take]; omega
  rw [Agz nd hs]
  exact ⟨_,_,_,rfl⟩
 ·rintro ρ ⟨v2,v3,v4,rfl⟩
  rw [List.length_map,List.take_length]
  walk_at "pr"
  exact q
abbrev swP (s:Str × Int):PV:=.tup [.str s.1,.int s.2]
inductive Stw (U:List Sg) (J:List Jn):List Int->Str × Int->List Int->Prop where
 | op {a b:List Int} {s x y:Int} (h:Ce J s = some (x,y)):Stw U J (a ++ s :: b) ("open",(a.length:Int)) (a ++ x :: y :: b)
 | jn {a b:List Int} {s x y:Int} (h:Ce J s = some (x,y)):Stw U J (a ++ x :: y :: b) ("join",(a.length:Int)) (a ++ s :: b)
 | tu {a b:List Int} {x y:Int} (hx:Cn U x > 0) (hy:Cn U y > 0) (ne:Cn U x ≠ Cn U y):Stw U J (a ++ x :: y :: b) ("turn",(a.length:Int)) (a ++ y :: x :: b)
theorem Yc {ts:List Int} {k:Nat} {x:Int} (h:ts[k]? = some x):ts = ts.take k ++ x :: ts.drop (k + 1)/\(ts.take k).length = k:=by
 have hk:=(List.getElem?_eq_some_iff.mp h).1
 rw [List.getElem?_eq_getElem hk] at h
 have e:=List.drop_eq_getElem_cons hk
 rw [Option.some.inj h] at e
 refine ⟨by rw [<- e,List.take_append_drop],by rw [List.length_take]; omega⟩
theorem Rt {ts:List Int} {k:Nat} {x y:Int} (h:ts[k]? = some x) (h2:ts[k + 1]? = some y):ts = ts.take k ++ x :: y :: ts.drop (k + 2)/\(ts.take k).length = k:=by
 have hk:=(List.getElem?_eq_some_iff.mp h).1
 have hk2:=(List.getElem?_eq_some_iff.mp h2).1
 rw [List.getElem?_eq_getElem hk] at h
 rw [List.getElem?_eq_getElem hk2] at h2
 have e:=List.drop_eq_getElem_cons hk
 have e2:=List.drop_eq_getElem_cons hk2
 rw [Option.some.inj h] at e
 rw [Option.some.inj h2] at e2
 refine ⟨by rw [<- e2,<- e,List.take_append_drop],by rw [List.length_take]; omega⟩
def Brs (U:List Sg) (J:List Jn) (ts:List Int) (s:Str × Int):Prop:=∃ us,Stw U J ts s us
theorem Adl {U:List Sg} {J:List Jn} {ts:List Int} {k:Nat} {s:Int} {p:Int × Int} (hs:ts[k]? = some s) (e:Ce J s = some p):Brs U J ts ("open",(k:Int)):=by
 obtain ⟨e1,e2⟩:=Yc hs
 have:=Stw.op (U:=U) (a:=ts.take k) (b:=ts.drop (k + 1)) (s:=s) (x:=p.1) (y:=p.2) e
 rw [<- e1,e2] at this
 exact ⟨_,this⟩
theorem AcR {U:List Sg} {J:List Jn} {ts:List Int} {k:Nat} {s x y:Int} (hx:ts[k]? = some x) (hy:ts[k + 1]? = some y) (e:Ce J s = some (x,y)):Brs U J ts ("join",(k:Int)):=by
 obtain ⟨e1,e2⟩:=Rt hx hy
 have:=Stw.jn (U:=U) (a:=ts.take k) (b:=ts.drop (k + 2)) e
 rw [<- e1,e2] at this
 exact ⟨_,this⟩
theorem AhD {U:List Sg} {J:List Jn} {ts:List Int} {k:Nat} {x y:Int} (hx:ts[k]? = some x) (hy:ts[k + 1]? = some y) (h1:Cn U x > 0) (h2:Cn U y > 0) (h3:Cn U x ≠ Cn U y):Brs U J ts ("turn",(k:Int)):=by
 obtain ⟨e1,e2⟩:=Rt hx hy
 have:=Stw.tu (J:=J) (a:=ts.take k) (b:=ts.drop (k + 2)) h1 h2 h3
 rw [<- e1,e2] at this
 exact ⟨_,this⟩
theorem Nh {a b:List Int} {x:Int}:(a ++ x :: b)[a.length]? = some x:=by simp
theorem Qo {a b:List Int} {x y:Int}:(a ++ x :: y :: b)[a.length + 1]? = some y:=by rw [List.getElem?_append_right (by omega)]; simp
theorem Tq {a b:List Int}:(a ++ b).take a.length = a:=by simp
theorem Ac2 {a b:List Int} {x:Int}:(a ++ x :: b).drop (a.length + 1) = b:=by
 rw [List.drop_append,List.drop_of_length_le (by omega)]; simp
theorem Wr {a b:List Int} {x y:Int}:(a ++ x :: y :: b).drop (a.length + 2) = b:=by
 rw [List.drop_append,List.drop_of_length_le (by omega)]; simp
def AeF (J:List Jn) (kvs:List (List Key × PV)):Prop:=∀ a b:Int,Cu kvs [Sum.inl a,Sum.inl b] = (jnd J a b).map PV.int
def AbN:PSp:=fun ps P=>∃ U M J,ps = [.dk (ptD J)]/\Fl U M J/\∀ kvs,AeF J kvs->P (.dt kvs)
theorem AkH (T:Txt K mg t):Binds K t.d_qr ["_law_parts_here"] []:=T.F_qr.binds (ps:=["_law_parts_here"]) fun _ _ _ _ _ _ us hl=>match us,hl with | [_],_=>rfl
theorem Akf (T:Txt K mg t):FnOk P w K mg base (CX1 P w) 1 t.f_qr t.d_qr ["_law_parts_here"] (spOf K t.C_Book [false] .fr AbN):=by
 refine T.F_qr.ok1 sc_qr (fun vs H Q E h=>h.len) (fun cdv A outer s H vs Q E hr h=>?_)
 have hu:=Co hr
 have hu64:=hr.units
 refine ⟨_,(Be (Bt (i:=1) sc_qr.nd rfl (Or.inl rfl) Yi)
   (Be (Dm PassesOwn.leaving rfl (Dh (Ck (Rq hr.hd) rfl T.z_sorted PyProof.Rows.boot_sorted (Ba (pv 0) Bb))) (By (i:=2) sc_qr.nd rfl (Or.inl rfl))
    (Bh (Gn hu (pv 1) (Nc hu (pv 0) (pv 2) (fun _ _=>rfl)) (pv 2) rfl)))
   (Bh (Cc (pv 1))))),?_⟩
 try dsimp only [Cg,Bw]
 refine Gi h (by decide) (Bv (Oo AeH)
   (Bv (Ow (EF.eu (Um (Bz Bc Bl))) (Dg (top:=3))
    (Aen (EU.eb (Tb Bc Bc)) Cz))
   Os)) (fun ps P hp=>?_)
 clear h hu hu64 hr
 obtain ⟨U,M,J,rfl,bk,q⟩:=hp
 simp only [Dv,List.zipWith_cons_cons,List.zipWith_nil_left,List.zipWith_nil_right,List.length_cons,List.length_nil,Nat.zero_add,Nat.reduceAdd,Nat.reduceSub,List.replicate_succ,List.replicate_zero,Bool.false_eq_true,if_false,if_true,List.cons_append,List.nil_append,Gk]
 have Jl:=bk.jl
 walk_at "pr"
 refine Wn (J.map (·.1)) (by unfold ptD; rw [List.map_map,List.map_map]; rfl) (by unfold ptD; rw [List.length_map]; omega) (fun ks hk _=>?_)
 have kl:ks.length <= 7:=by rw [hk.length_eq,List.length_map]; exact Jl
 walk_at "pr"
 refine ⟨fun k ρ=>∃ (kvs:List (List Key × PV)) (v2:Sl),ρ = [.bo (.dk (ptD J)),.ow (.dt kvs),v2]/\JD J (ks.take k) kvs/\kvs.length <= k,⟨[],_,rfl,JD.nil,Nat.le_refl _⟩,?_,?_⟩
 ·rintro k p ρ hp ⟨kvs,v5,rfl,jd,ln⟩
  rw [List.getElem?_map] at hp
  obtain ⟨w,hw,rfl⟩:=Option.map_eq_some_iff.mp hp
  have hkk:k < ks.length:=(List.getElem?_eq_some_iff.mp hw).1
  obtain ⟨x,y,e⟩:=Zg bk (hk.mem_iff.mp (List.mem_of_getElem? hw))
  walk_at "pr"
  refine Uo (by rw [Sr,e]; rfl) ?_
  walk_at "pr"
  rotate_left
  ·omega
  exact ⟨_,_,rfl,by rw [Dj hw]; exact jd.put bk e,Nat.le_trans (Ad9 _ _ _) (by omega)⟩
 rintro ρ ⟨kvs,v5,rfl,jd,ln⟩
 rw [List.length_map,List.take_length] at jd
 walk_at "pr"
 exact q kvs (jd.all bk hk)
theorem brs_iff {U:List Sg} {J:List Jn} {ts:List Int} {w:Str} {k:Int}:Brs U J ts (w,k) ↔ ∃ a:Nat,k = (a:Int)/\((w = "open"/\∃ s p,ts[a]? = some s/\Ce J s = some p)\/(w = "join"/\∃ x y s,ts[a]? = some x/\ts[a + 1]? = some y/\Ce J s = some (x,y))\/(w = "turn"/\∃ x y,ts[a]? = some x/\ts[a + 1]? = some y/\Cn U x > 0/\Cn U y > 0/\Cn U x ≠ Cn U y)):=by
 constructor
 ·rintro ⟨us,h⟩
  cases h with
  | @op a b s x y h=>exact ⟨a.length,rfl,.inl ⟨rfl,s,(x,y),Nh,h⟩⟩
  | @jn a b s x y h=>exact ⟨a.length,rfl,.inr (.inl ⟨rfl,x,y,s,Nh,Qo,h⟩)⟩
  | @tu a b x y h1 h2 h3=>exact ⟨a.length,rfl,.inr (.inr ⟨rfl,x,y,Nh,Qo,h1,h2,h3⟩)⟩
 ·rintro ⟨a,rfl,⟨rfl,s,p,h1,h2⟩ | ⟨rfl,x,y,s,h1,h2,h3⟩ | ⟨rfl,x,y,h1,h2,h3,h4,h5⟩⟩
  ·exact Adl h1 h2
  ·exact AcR h1 h2 h3
  ·exact AhD h1 h2 h3 h4 h5
def Oj (U:List Sg) (x y:Int):Prop:=Cn U x > 0/\Cn U y > 0/\Cn U x ≠ Cn U y
def opS (b:Bool) (w:Str) (k:Int):List (Str × Int):=if b = true then [(w,k)] else []
theorem Vf (w:Str) (k:Int):opS false w k = []:=rfl
theorem Vl (b:Bool) (w:Str) (k:Int):(opS b w k).length <= 1:=by cases b <;> simp [opS]
theorem AaI {b:Bool} {w:Str} {k:Int} {z:Str × Int}:z ∈ opS b w k ↔ b = true/\z = (w,k):=by cases b <;> simp [opS]
def trB (U:List Sg) (x y:Int):Bool:=decide (Cn U x > 0) && (decide (Cn U y > 0) && !decide (Cn U y = Cn U x))
theorem trB_iff {U:List Sg} {x y:Int}:trB U x y = true ↔ Oj U x y:=by
 unfold trB Oj
 rw [Bool.and_eq_true,Bool.and_eq_true,decide_eq_true_iff,decide_eq_true_iff]
 constructor
 ·rintro ⟨h1,h2,h3⟩
  exact ⟨h1,h2,fun e=>by rw [e] at h3; simp at h3⟩
 ·rintro ⟨h1,h2,h3⟩
  exact ⟨h1,h2,by rw [decide_eq_false (fun e=>h3 e.symm)]; rfl⟩
theorem Yy {U:List Sg} {J:List Jn} {ts:List Int} {k:Nat} {s:Int} (hs:ts[k]? = some s) (z:Str × Int):Brs U J (ts.take (k + 1)) z ↔ Brs U J (ts.take k) z\/((Ce J s).isSome = true/\z = (("open" : Str),(k:Int)))\/∃ j y,k = j + 1/\ts[j]? = some y/\((∃ w,Ce J w = some (y,s)/\z = (("join" : Str),(j:Int)))\/(Oj U y s/\z = (("turn" : Str),(j:Int)))):=by
 obtain ⟨w,n⟩:=z
 have gt:∀ (m a:Nat) (x:Int),(ts.take m)[a]? = some x ↔ a < m/\ts[a]? = some x:=fun m a x=>by
  rw [List.getElem?_take]
  by_cases h:a < m
  ·rw [if_pos h]; exact ⟨fun e=>⟨h,e⟩,fun e=>e.2⟩
  ·rw [if_neg h]; exact ⟨fun e=>(by cases e),fun e=>absurd e.1 h⟩
 rw [brs_iff,brs_iff]
 simp only [gt]
 constructor
 ·rintro ⟨a,rfl,⟨rfl,x,p,⟨h1,h2⟩,h3⟩ | ⟨rfl,x,y,v,⟨h1,h2⟩,⟨h3,h4⟩,h5⟩ | ⟨rfl,x,y,⟨h1,h2⟩,⟨h3,h4⟩,h5⟩⟩
  ·by_cases e:a = k
   ·subst e
    rw [hs] at h2; cases h2
    exact .inr (.inl ⟨by rw [h3]; rfl,rfl⟩)
   ·exact .inl ⟨a,rfl,.inl ⟨rfl,x,p,⟨by omega,h2⟩,h3⟩⟩
  ·by_cases e:a + 1 = k
   ·subst e
    rw [hs] at h4; cases h4
    exact .inr (.inr ⟨a,x,rfl,h2,.inl ⟨v,h5,rfl⟩⟩)
   ·exact .inl ⟨a,rfl,.inr (.inl ⟨rfl,x,y,v,⟨by omega,h2⟩,⟨by omega,h4⟩,h5⟩)⟩
  ·by_cases e:a + 1 = k
   ·subst e
    rw [hs] at h4; cases h4
    exact .inr (.inr ⟨a,x,rfl,h2,.inr ⟨h5,rfl⟩⟩)
   ·exact .inl ⟨a,rfl,.inr (.inr ⟨rfl,x,y,⟨by omega,h2⟩,⟨by omega,h4⟩,h5⟩)⟩
 ·rintro (⟨a,rfl,h⟩ | ⟨h1,h2⟩ | ⟨j,y,rfl,hy,⟨v,h1,h2⟩ | ⟨h1,h2⟩⟩)
  ·refine ⟨a,rfl,?_⟩
   rcases h with ⟨rfl,x,p,⟨h1,h2⟩,h3⟩ | ⟨rfl,x,y,v,⟨h1,h2⟩,⟨h3,h4⟩,h5⟩ | ⟨rfl,x,y,⟨h1,h2⟩,⟨h3,h4⟩,h5⟩
   ·exact .inl ⟨rfl,x,p,⟨by omega,h2⟩,h3⟩
   ·exact .inr (.inl ⟨rfl,x,y,v,⟨by omega,h2⟩,⟨by omega,h4⟩,h5⟩)
   ·exact .inr (.inr ⟨rfl,x,y,⟨by omega,h2⟩,⟨by omega,h4⟩,h5⟩)
  ·obtain ⟨p,e⟩:=Option.isSome_iff_exists.mp h1
   cases h2
   exact ⟨k,rfl,.inl ⟨rfl,s,p,⟨by omega,hs⟩,e⟩⟩
  ·cases h2
   exact ⟨j,rfl,.inr (.inl ⟨rfl,y,s,v,⟨by omega,hy⟩,⟨by omega,hs⟩,h1⟩)⟩
  ·cases h2
   exact ⟨j,rfl,.inr (.inr ⟨rfl,y,s,⟨by omega,hy⟩,⟨by omega,hs⟩,h1⟩)⟩
theorem Agv {U:List Sg} {J:List Jn} {ts:List Int} (s:Str × Int) (us:List Int):¬ Stw U J (List.take 0 ts) s us:=by
 rw [List.take_zero]
 generalize e:([]:List Int) = l
 intro h
 cases h <;> simp at e
def Abk:PSp:=fun ps P=>∃ U M J ts kvs,ps = [.lst (List.map .int ts),.dk (rkD U),.dk (ptD J),.dt kvs]/\Fl U M J/\ts.length <= 300/\AeF J kvs/\∀ ss:List (Str × Int),(∀ s,s ∈ ss ↔ Brs U J ts s)->P (.lst (List.map swP ss))
theorem AjG (T:Txt K mg t):Binds K t.d_qba ["_law_text_here","_law_ranks_here","_law_parts_here","_law_joined_here"] []:=T.F_qba.binds (ps:=["_law_text_here","_law_ranks_here","_law_parts_here","_law_joined_here"]) fun _ _ _ _ _ _ us hl=>match us,hl with | [_,_,_,_],_=>rfl
theorem AiR (T:Txt K mg t):FnOk P w K mg base (CX1 P w) 1 t.f_qba t.d_qba ["_law_text_here","_law_ranks_here","_law_parts_here","_law_joined_here"] (spOf K t.C_Book [true,false,false,false] .fr Abk):=by
 refine T.F_qba.ok1 sc_qba (fun vs H Q E h=>h.len) (fun cdv A outer s H vs Q E hr h=>?_)
 have hu:=Co hr
 have hu64:=hr.units
 refine ⟨_,(Be (Bt (i:=4) sc_qba.nd rfl (Or.inl rfl) (Cp Bb))
   (Be (Bt (i:=5) sc_qba.nd rfl (Or.inl rfl) (AfC AcV Bf))
   (Be (Dm PassesOwn.leaving rfl (AgS (pv 0) rfl T.z_enumerate) (Th (K':=K) (n:=2) rfl rfl (Cm (By (i:=6) sc_qba.nd rfl (Or.inl rfl)) (Cm (By (i:=7) sc_qba.nd rfl (Or.inl rfl)) Gd)))
    (Be (Bt (i:=8) sc_qba.nd rfl (Or.inl rfl) (Ub hu (pv 1) (pv 7) Bf ⟨rfl,rfl,rfl,rfl⟩))
   (Be (Di (Rp (Ys hu (pv 7) (pv 2)))
    (Bh (Cl (Jz PySem.F.plainAttrs_list PySem.F.slot_list_append PySem.F.type_list_append Fe (pv 4) (Ba (Cq (Ba Bu (Ba (pv 6) Bb))) Bb))))
    Cw)
   (Be (Di (PW.pt (Uf (Cj Abf (pv 5) Bf (Ci _)) (Vz (Rp (Ys hu (Cq (Ba (Cb (Du K) (pv 0) (Bp Uw (pv 6) Bf) (fun _ _=>rfl)) (Ba (pv 7) Bb))) (pv 3))))))
    (Bh (Cl (Jz PySem.F.plainAttrs_list PySem.F.slot_list_append PySem.F.type_list_append Fe (pv 4) (Ba (Cq (Ba Bu (Ba (Bp Uw (pv 6) Bf) Bb))) Bb))))
    Cw)
   (Be (Di (PW.pt (Uf (Cj Xk (pv 5) Bf (Ci _)) (Uf (Cj Xk (pv 8) Bf (Ci _)) (Vz (Cj Ui (pv 8) (pv 5) (Ci _))))))
    (Bh (Cl (Jz PySem.F.plainAttrs_list PySem.F.slot_list_append PySem.F.type_list_append Fe (pv 4) (Ba (Cq (Ba Bu (Ba (Bp Uw (pv 6) Bf) Bb))) Bb))))
    Cw)
   (Bh (Bt (i:=5) sc_qba.nd rfl (Or.inl rfl) (pv 8))))))))
   (Bh (Cc (pv 4)))))),?_⟩
 try dsimp only [Cg,Bw]
 refine Gi h (by decide) (Bv (Oo (Dw 0 Bl))
   (Bv (Ct (Ahg (fun _ _=>.int _) (EU.eb Bq)))
   (Bv (AgR Cz (Up (Fu (Dg (top:=9)) (Fu (Dg (top:=9)) Tg)))
    (Bv (Ct (AeP Bc Bq))
   (Bv (Ff (Ds (EU.eb (Aiq Bc Bc)))
    (Ol (Bx (Fk 2 (Bx Da (Bx Cz Bl))) Bl))
    Dn)
   (Bv (Ff (Uz (Ds (EU.eb (Fg (fun _ _ _=>.bl _) Bc (EU.eb Bq)))) (Ds (EU.eb (AgI (EU.eb (Fk 2 (Bx (Fs Bc (EU.eb (Fg (fun _ _ _=>.int _) Bc (EU.eb Bq)))) (Bx Cz Bl)))) Bc))))
    (Ol (Bx (Fk 2 (Bx Da (Bx (Fg (fun _ _ _=>.int _) Bc (EU.eb Bq)) Bl))) Bl))
    Dn)
   (Bv (Ff (Uz (Ds (EU.eb (Fg (fun _ _ _=>.bl _) Bc (EU.eb Bq)))) (Uz (Ds (EU.eb (Fg (fun _ _ _=>.bl _) Bc (EU.eb Bq)))) (Ds (EU.eb (Xg Bc Bc)))))
    (Ol (Bx (Fk 2 (Bx Da (Bx (Fg (fun _ _ _=>.int _) Bc (EU.eb Bq)) Bl))) Bl))
    Dn)
   (Ct Cz))))))
   Os))) (fun ps P hp=>?_)
 clear h hu hu64 hr
 obtain ⟨U,M,J,ts,kvs,rfl,bk,hl,hj,q⟩:=hp
 simp only [Dv,List.zipWith_cons_cons,List.zipWith_nil_left,List.zipWith_nil_right,List.length_cons,List.length_nil,Nat.zero_add,Nat.reduceAdd,Nat.reduceSub,List.replicate_succ,List.replicate_zero,Bool.false_eq_true,if_false,if_true,List.cons_append,List.nil_append,Gk]
 walk_at "pr"
 refine ⟨fun k ρ=>∃ (ss:List (Str × Int)) (bf:Int) (v6 v7 v8:Sl),ρ = [.sh (.lst (ts.map .int)),.bo (.dk (rkD U)),.bo (.dk (ptD J)),.bo (.dt kvs),.ow (.lst (ss.map swP)),.sh (.int bf),v6,v7,v8]/\ss.length <= 3 * k/\(∀ s,s ∈ ss ↔ Brs U J (ts.take k) s)/\((k = 0/\bf = -1)\/∃ y,0 < k/\ts[k - 1]? = some y/\bf = Cn U y),⟨[],-1,_,_,_,rfl,Nat.zero_le _,(fun s=>⟨fun h=>by (cases h),fun h=>by (obtain ⟨us,h⟩:=h; exact absurd h (Agv s us))⟩),.inl ⟨rfl,rfl⟩⟩,?_,?_⟩
 ·rintro k p ρ hp ⟨ss,bf,v6,v7,v8,rfl,ln,hb,hbf⟩
  rw [Aau,List.getElem?_map] at hp
  obtain ⟨p',hp',rfl⟩:=Option.map_eq_some_iff.mp hp
  obtain ⟨s,hs,rfl⟩:=Option.map_eq_some_iff.mp hp'
  have hk:k < ts.length:=(List.getElem?_eq_some_iff.mp hs).1
  walk_at "px"
  refine Afs ?_
  walk_at "px"
  rw [Ag3]
  walk_at "px"
  refine Vt (fun ρ=>ρ = [.sh (.lst (ts.map .int)),.bo (.dk (rkD U)),.bo (.dk (ptD J)),.bo (.dt kvs),.ow (.lst ((ss ++ opS (Ce J s).isSome "open" (k:Int)).map swP)),.sh (.int bf),.sh (.int k),.sh (.int s),.sh (.int (Cn U s))]) (fun ρ h=>?_) ?_
  rotate_left
  ·walk_at "pr"
   rw [Sr,Option.isSome_map]
   cases e:(Ce J s).isSome with
   | true =>
    walk_at "pr"
    rotate_left
    ·rw [List.length_map]; omega
    refine .inl ?_
    rw [List.map_append]; rfl
   | false =>
    walk_at "pr"
    refine .inl ?_
    rw [Vf,List.append_nil]
  subst h
  have l1:=Vl (Ce J s).isSome "open" (k:Int)
  rcases hbf with ⟨rfl,rfl⟩ | ⟨y,kp,hy,rfl⟩
  ·walk_at "pr"
   rw [show decide ((0:Int) <= -1) = false by decide]
   walk_at "pr"
   rw [show decide ((0:Int) < -1) = false by decide]
   walk_at "pr"
   refine ⟨_,_,_,_,_,rfl,by rw [List.length_append]; omega,fun z=>?_,.inr ⟨s,Nat.succ_pos _,hs,rfl⟩⟩
   rw [List.mem_append,hb z,Yy hs z]
   simp only [AaI]
   constructor
   ·rintro (h | h)
    ·exact .inl h
    ·exact .inr (.inl h)
   ·rintro (h | h | ⟨j,y,e,_⟩)
    ·exact .inl h
    ·exact .inr h
    ·cases e
  ·obtain ⟨j,rfl⟩:∃ j,k = j + 1:=⟨k - 1,by omega⟩
   rw [Nat.add_sub_cancel] at hy
   have ry:0 <= Cn U y:=by
    cases z:Vr U M y with
    | true=>have:=AaO bk z; omega
    | false=>rw [Aal bk z]; omega
   have ek:(((j + 1:Nat):Int) - 1) = (j:Int):=by omega
   have l2:=Vl (jnd J y s).isSome "join" (j:Int)
   have l3:=Vl (trB U y s) "turn" (j:Int)
   walk_at "px"
   refine Vt (fun ρ=>ρ = [.sh (.lst (ts.map .int)),.bo (.dk (rkD U)),.bo (.dk (ptD J)),.bo (.dt kvs),.ow (.lst ((ss ++ opS (Ce J s).isSome "open" ((j + 1:Nat):Int) ++ opS (jnd J y s).isSome "join" (j:Int)).map swP)),.sh (.int (Cn U y)),.sh (.int ((j + 1:Nat):Int)),.sh (.int s),.sh (.int (Cn U s))]) (fun ρ h=>?_) ?_
   rotate_left
   ·walk_at "pr"
    rw [decide_eq_true ry]
    walk_at "pr"
    refine Ql (l:=ts) (f:=PV.int) (j:=j) (a:=y) hy ek ?_
    walk_at "pr"
    rw [hj,Option.isSome_map]
    cases e:(jnd J y s).isSome with
    | true =>
     walk_at "pr"
     rotate_left
     ·rw [List.length_map,List.length_append]; omega
     refine .inl ?_
     rw [ek,List.map_append (l₁:=_ ++ _)]; rfl
    | false =>
     walk_at "pr"
     refine .inl ?_
     rw [Vf,List.append_nil]
   subst h
   walk_at "px"
   refine Vt (fun ρ=>ρ = [.sh (.lst (ts.map .int)),.bo (.dk (rkD U)),.bo (.dk (ptD J)),.bo (.dt kvs),.ow (.lst ((ss ++ opS (Ce J s).isSome "open" ((j + 1:Nat):Int) ++ opS (jnd J y s).isSome "join" (j:Int) ++ opS (trB U y s) "turn" (j:Int)).map swP)),.sh (.int (Cn U y)),.sh (.int ((j + 1:Nat):Int)),.sh (.int s),.sh (.int (Cn U s))]) (fun ρ h=>?_) ?_
   rotate_left
   ·walk_at "pr"
    by_cases t1:0 < Cn U y
    ·rw [decide_eq_true t1]
     walk_at "pr"
     by_cases t2:0 < Cn U s
     ·rw [decide_eq_true t2]
      walk_at "pr"
      by_cases t3:Cn U s = Cn U y
      ·have et:trB U y s = false:=by unfold trB; simp [t3]
       rw [decide_eq_true t3]
       walk_at "pr"
       refine .inl ?_
       rw [et,Vf,List.append_nil]
      ·have et:trB U y s = true:=by unfold trB; simp [t1,t2,t3]
       rw [decide_eq_false t3]
       walk_at "pr"
       rotate_left
       ·rw [List.length_map,List.length_append,List.length_append]; omega
       refine .inl ?_
       rw [ek,et,List.map_append (l₁:=_ ++ _ ++ _)]; rfl
     ·have et:trB U y s = false:=by unfold trB; simp [t2]
      rw [decide_eq_false t2]
      walk_at "pr"
      refine .inl ?_
      rw [et,Vf,List.append_nil]
    ·have et:trB U y s = false:=by unfold trB; simp [t1]
     rw [decide_eq_false t1]
     walk_at "pr"
     refine .inl ?_
     rw [et,Vf,List.append_nil]
   subst h
   walk_at "pr"
   refine ⟨_,_,_,_,_,rfl,by rw [List.length_append,List.length_append,List.length_append]; omega,fun z=>?_,.inr ⟨s,Nat.succ_pos _,hs,rfl⟩⟩
   rw [List.mem_append,List.mem_append,List.mem_append,hb z,Yy hs z]
   simp only [AaI]
   constructor
   ·rintro (((h | h) | ⟨h1,h2⟩) | ⟨h1,h2⟩)
    ·exact .inl h
    ·exact .inr (.inl h)
    ·obtain ⟨w,e⟩:=Option.isSome_iff_exists.mp h1
     exact .inr (.inr ⟨j,y,rfl,hy,.inl ⟨w,Nq bk e,h2⟩⟩)
    ·exact .inr (.inr ⟨j,y,rfl,hy,.inr ⟨trB_iff.mp h1,h2⟩⟩)
   ·rintro (h | h | ⟨j',y',e,hy',h⟩)
    ·exact .inl (.inl (.inl h))
    ·exact .inl (.inl (.inr h))
    ·have:j' = j:=by omega
     subst this
     rw [hy] at hy'
     cases hy'
     rcases h with ⟨w,h1,h2⟩ | ⟨h1,h2⟩
     ·exact .inl (.inr ⟨by rw [Jr bk h1]; rfl,h2⟩)
     ·exact .inr ⟨trB_iff.mpr h1,h2⟩
 rintro ρ ⟨ss,bf,v6,v7,v8,rfl,ln,hb,hbf⟩
 rw [Aa1,List.length_map] at ln hb
 rw [List.take_length] at hb
 walk_at "pr"
 exact q ss hb
def Aac:PSp:=fun ps P=>∃ U M J ts us st kvs,ps = [.lst (List.map .int ts),swP st,.dk (ptD J),.dt kvs]/\Fl U M J/\ts.length <= 1000/\AeF J kvs/\Stw U J ts st us/\P (.lst (List.map .int us))
theorem AkO (T:Txt K mg t):Binds K t.d_qk ["_law_text_here","_law_step","_law_parts_here","_law_joined_here"] []:=T.F_qk.binds (ps:=["_law_text_here","_law_step","_law_parts_here","_law_joined_here"]) fun _ _ _ _ _ _ us hl=>match us,hl with | [_,_,_,_],_=>rfl
theorem Aku (T:Txt K mg t):FnOk P w K mg base (CX1 P w) 1 t.f_qk t.d_qk ["_law_text_here","_law_step","_law_parts_here","_law_joined_here"] (spOf K t.C_Book [false,true,false,false] .fr Aac):=by
 refine T.F_qk.ok1 sc_qk (fun vs H Q E h=>h.len) (fun cdv A outer s H vs Q E hr h=>?_)
 have hu:=Co hr
 have hu64:=hr.units
 refine ⟨_,(Be (Aio (pv 1) (Th (K':=K) (n:=2) rfl rfl (Cm (By (i:=4) sc_qk.nd rfl (Or.inl rfl)) (Cm (By (i:=5) sc_qk.nd rfl (Or.inl rfl)) Gd))))
   (Be (Di (Cj Fr (pv 4) Bu (Ci _))
    (Bh (Cc (Bp Fd (Bp Fd (Dk (Dx K) (pv 0) Fj (Dl (pv 5))) (Fz (Dz K) rfl T.z_list PyProof.Rows.boot_list (Ba (Nc hu (pv 2) (Cb (Du K) (pv 0) (pv 5) (fun _ _=>rfl)) (fun _ _=>rfl)) Bb))) (Dk (Dx K) (pv 0) (Dl (Bp Do (pv 5) Bf)) Fj))))
    Cw)
   (Be (Di (Cj Fr (pv 4) Bu (Ci _))
    (Bh (Cc (Bp Fd (Bp Fd (Dk (Dx K) (pv 0) Fj (Dl (pv 5))) (Cp (Ba (Nc hu (pv 3) (Cq (Ba (Cb (Du K) (pv 0) (pv 5) (fun _ _=>rfl)) (Ba (Cb (Du K) (pv 0) (Bp Do (pv 5) Bf) (fun _ _=>rfl)) Bb))) (fun _ _=>rfl)) Bb))) (Dk (Dx K) (pv 0) (Dl (Bp Do (pv 5) Bf)) Fj))))
    Cw)
   (Bh (Cc (Bp Fd (Bp Fd (Dk (Dx K) (pv 0) Fj (Dl (pv 5))) (Cp (Ba (Cb (Du K) (pv 0) (Bp Do (pv 5) Bf) (fun _ _=>rfl)) (Ba (Cb (Du K) (pv 0) (pv 5) (fun _ _=>rfl)) Bb)))) (Dk (Dx K) (pv 0) (Dl (Bp Do (pv 5) Bf)) Fj))))))),?_⟩
 try dsimp only [Cg,Bw]
 refine Gi h (by decide) (Bv (Ahy Cz (Up (Fu (Dg (top:=6)) (Fu (Dg (top:=6)) Tg))))
   (Bv (Ff (Ds (EU.eb (Gu Bc (EU.eb Da))))
    (Ge (Gb (EF.eb (Gb (EF.eb (Gr Bc Jg (Fo Bc))) (EF.eb (Jh (Bz (EU.eb (Tb Bc (EU.eb (Fs Bc Bc)))) Bl))))) (EF.eb (Gr Bc (Fo (EU.eb (Fg (fun _ _ _=>.int _) Bc (EU.eb Bq)))) Jg))))
    Dn)
   (Bv (Ff (Ds (EU.eb (Gu Bc (EU.eb Da))))
    (Ge (Gb (EF.eb (Gb (EF.eb (Gr Bc Jg (Fo Bc))) (EF.eb (Dw 1 (Bx (AeX Bc (EU.eb (Fk 2 (Bx (Fs Bc Bc) (Bx (Fs Bc (EU.eb (Fg (fun _ _ _=>.int _) Bc (EU.eb Bq)))) Bl))))) Bl))))) (EF.eb (Gr Bc (Fo (EU.eb (Fg (fun _ _ _=>.int _) Bc (EU.eb Bq)))) Jg))))
    Dn)
   (Ge (Gb (EF.eb (Gb (EF.eb (Gr Bc Jg (Fo Bc))) (EF.eb (Dw 2 (Bx (Fs Bc (EU.eb (Fg (fun _ _ _=>.int _) Bc (EU.eb Bq)))) (Bx (Fs Bc Bc) Bl)))))) (EF.eb (Gr Bc (Fo (EU.eb (Fg (fun _ _ _=>.int _) Bc (EU.eb Bq)))) Jg))))))) (fun ps P hp=>?_)
 clear h hu hu64 hr
 obtain ⟨U,M,J,ts,us,st,kvs,rfl,bk,hl,hj,hs,q⟩:=hp
 simp only [Dv,List.zipWith_cons_cons,List.zipWith_nil_left,List.zipWith_nil_right,List.length_cons,List.length_nil,Nat.zero_add,Nat.reduceAdd,Nat.reduceSub,List.replicate_succ,List.replicate_zero,Bool.false_eq_true,if_false,if_true,List.cons_append,List.nil_append,Gk]
 have c0:∀ lo hi,(Fy (ts.map PV.int) lo hi).length <= 1000:=fun lo hi=>Nat.le_trans (Nu _ _ _) (by rw [List.length_map]; exact hl)
 cases hs with
 | @op a b s x y h =>
  have c1:=c0 none (some (a.length:Int))
  have c2:=c0 (some ((a.length:Int) + 1)) none
  walk_at "pr"
  rw [decide_eq_true rfl]
  walk_at "pr"
  refine Ql Nh rfl ?_
  walk_at "pr"
  refine Uo (by rw [Sr,h]; rfl) ?_
  walk_at "pr"
  all_goals try (simp only [List.length_append,List.length_cons,List.length_nil]; omega)
  rw [Fc,Uh,Tq,show (a.length:Int) + 1 = ((a.length + 1:Nat):Int) by omega,Fc,Us,Ac2]
  simpa using q
 | @jn a b s x y h =>
  have c1:=c0 none (some (a.length:Int))
  have c2:=c0 (some ((a.length:Int) + 2)) none
  walk_at "pr"
  rw [decide_eq_false (by decide +kernel)]
  walk_at "pr"
  rw [decide_eq_true rfl]
  walk_at "pr"
  refine Ql Nh rfl ?_
  walk_at "pr"
  refine Ql Qo (by omega) ?_
  walk_at "pr"
  refine AgQ (by rw [hj,Jr bk h]; rfl) ?_
  walk_at "pr"
  all_goals try (simp only [List.length_append,List.length_cons,List.length_nil]; omega)
  rw [Fc,Uh,Tq,show (a.length:Int) + 2 = ((a.length + 2:Nat):Int) by omega,Fc,Us,Wr]
  simpa using q
 | @tu a b x y h1 h2 h3 =>
  have c1:=c0 none (some (a.length:Int))
  have c2:=c0 (some ((a.length:Int) + 2)) none
  walk_at "pr"
  rw [decide_eq_false (by decide +kernel)]
  walk_at "pr"
  rw [decide_eq_false (by decide +kernel)]
  walk_at "pr"
  refine Ql Qo (by omega) ?_
  walk_at "pr"
  refine Ql Nh rfl ?_
  walk_at "pr"
  all_goals try (simp only [List.length_append,List.length_cons,List.length_nil]; omega)
  rw [Fc,Uh,Tq,show (a.length:Int) + 2 = ((a.length + 2:Nat):Int) by omega,Fc,Us,Wr]
  simpa using q
local macro_rules | `(tactic| walk_at "u")=>`(tactic| with_reducible refine u_sp_kind (by assumption) ?_)
local macro_rules | `(tactic| walk_at "u")=>`(tactic| with_reducible refine Oi (by assumption) Xv ?_)
theorem Aje (T:Txt K mg t):Binds K t.d_qv ["self","sign"] []:=T.F_qv.binds (ps:=["self","sign"]) fun _ _ _ _ _ _ us hl=>match us,hl with | [_,_],_=>rfl
theorem Af4 (T:Txt K mg t):FnOk P w K mg base (CX1 P w) 2 t.f_qv t.d_qv ["self","sign"] (Aax t.C_Book):=by
 refine T.F_qv.ok1 Aj7 (fun vs H Q E h=>?_) (fun cdv A outer s H vs Q E hr h=>?_)
 ·obtain ⟨b,n,k,r,m,p,w,rfl,⟨dx,dk,dr,dm,dp,dw,h1,h2,h3,h4,h5,h6⟩,q⟩:=h
  rfl
 ·obtain ⟨b,n,k,r,m,p,w,rfl,⟨dx,dk,dr,dm,dp,dw,h1,h2,h3,h4,h5,h6⟩,q⟩:=h
  have hu:=Co hr
  have hu64:=hr.units
  refine ⟨_,(Bh (Cc (Bo (Xi T) (hr.mono (by decide)) rfl T.m_qp T.F_qp.kp (Abx T) .nil Bs (Ba (Op (pv 0) rfl) (Ba (pv 1) Bb))))),?_⟩
  try dsimp only [Cg,Bw]
  walk_at "rd"
  refine ⟨b,_,_,_,_,rfl,h1,T.cl_Book,T.n_Book_kinds,Ada,?_⟩
  walk_at "rd"
  exact q
local macro_rules | `(tactic| walk_at "u")=>`(tactic| with_reducible refine u_sp_rank (by assumption) ?_)
local macro_rules | `(tactic| walk_at "u")=>`(tactic| with_reducible refine Oi (by assumption) Zc ?_)
theorem AhJ (T:Txt K mg t):Binds K t.d_qx ["self","sign"] []:=T.F_qx.binds (ps:=["self","sign"]) fun _ _ _ _ _ _ us hl=>match us,hl with | [_,_],_=>rfl
theorem Afm (T:Txt K mg t):FnOk P w K mg base (CX1 P w) 1 t.f_qx t.d_qx ["self","sign"] (AaV t.C_Book):=by
 refine T.F_qx.ok1 AjB (fun vs H Q E h=>?_) (fun cdv A outer s H vs Q E hr h=>?_)
 ·obtain ⟨b,n,k,r,m,p,w,rfl,⟨dx,dk,dr,dm,dp,dw,h1,h2,h3,h4,h5,h6⟩,q⟩:=h
  rfl
 ·obtain ⟨b,n,k,r,m,p,w,rfl,⟨dx,dk,dr,dm,dp,dw,h1,h2,h3,h4,h5,h6⟩,q⟩:=h
  have hu:=Co hr
  have hu64:=hr.units
  refine ⟨_,(Bh (Cc (Ub hu (Op (pv 0) rfl) (pv 1) Bf ⟨rfl,rfl,rfl,rfl⟩))),?_⟩
  try dsimp only [Cg,Bw]
  walk_at "rd"
  refine ⟨b,_,_,_,_,rfl,h1,T.cl_Book,T.n_Book_ranks,AcJ,?_⟩
  walk_at "rd"
  exact q
local macro_rules | `(tactic| walk_at "u")=>`(tactic| with_reducible refine u_sp_parts (by assumption) ?_)
local macro_rules | `(tactic| walk_at "u")=>`(tactic| with_reducible refine Oi (by assumption) Wh ?_)
theorem Ak4 (T:Txt K mg t):Binds K t.d_qm ["self","sign"] []:=T.F_qm.binds (ps:=["self","sign"]) fun _ _ _ _ _ _ us hl=>match us,hl with | [_,_],_=>rfl
theorem AjU (T:Txt K mg t):FnOk P w K mg base (CX1 P w) 1 t.f_qm t.d_qm ["self","sign"] (Zo t.C_Book):=by
 refine T.F_qm.ok1 Aka (fun vs H Q E h=>?_) (fun cdv A outer s H vs Q E hr h=>?_)
 ·obtain ⟨b,n,k,r,m,p,w,rfl,⟨dx,dk,dr,dm,dp,dw,h1,h2,h3,h4,h5,h6⟩,q⟩:=h
  rfl
 ·obtain ⟨b,n,k,r,m,p,w,rfl,⟨dx,dk,dr,dm,dp,dw,h1,h2,h3,h4,h5,h6⟩,q⟩:=h
  have hu:=Co hr
  have hu64:=hr.units
  refine ⟨_,(Bh (Cc (Xp hu (Op (pv 0) rfl) (pv 1) ⟨rfl,rfl,rfl,rfl⟩))),?_⟩
  try dsimp only [Cg,Bw]
  walk_at "rd"
  refine ⟨b,_,_,_,_,rfl,h1,T.cl_Book,T.n_Book_pairs,Ac3,?_⟩
  walk_at "rd"
  exact q
local macro_rules | `(tactic| walk_at "u")=>`(tactic| with_reducible refine u_joined (by assumption) ?_)
local macro_rules | `(tactic| walk_at "u")=>`(tactic| with_reducible refine Oi (by assumption) Vc ?_)
theorem AkU (T:Txt K mg t):Binds K t.d_qh ["self","base","mark"] []:=T.F_qh.binds (ps:=["self","base","mark"]) fun _ _ _ _ _ _ us hl=>match us,hl with | [_,_,_],_=>rfl
theorem Akx (T:Txt K mg t):FnOk P w K mg base (CX1 P w) 1 t.f_qh t.d_qh ["self","base","mark"] (Wv t.C_Book):=by
 refine T.F_qh.ok1 Aj6 (fun vs H Q E h=>?_) (fun cdv A outer s H vs Q E hr h=>?_)
 ·obtain ⟨b,n,n2,k,r,m,p,w,rfl,⟨dx,dk,dr,dm,dp,dw,h1,h2,h3,h4,h5,h6⟩,q⟩:=h
  rfl
 ·obtain ⟨b,n,n2,k,r,m,p,w,rfl,⟨dx,dk,dr,dm,dp,dw,h1,h2,h3,h4,h5,h6⟩,q⟩:=h
  have hu:=Co hr
  have hu64:=hr.units
  refine ⟨_,(Bh (Cc (Xp hu (Op (pv 0) rfl) (Acu (Ba (pv 1) (Ba (pv 2) Bb))) ⟨rfl,rfl,rfl,rfl⟩))),?_⟩
  try dsimp only [Cg,Bw]
  walk_at "rd"
  refine ⟨b,_,_,_,_,rfl,h1,T.cl_Book,T.n_Book_wholes,AbO,?_⟩
  refine ⟨dw,rfl,.inr ⟨_,.inl h6⟩,?_⟩
  walk_at "rd"
  refine ⟨by show 2 <= sizeLine; decide,fun x hx=>?_⟩
  refine ⟨_,DGet.t (k:=[Sum.inl n,Sum.inl n2]) (by rw [Bg (Bn h6 hx)]; exact h6) Bk,?_⟩
  exact q x hx
def Adx (c:Addr):Gx:=fun ps P X=>∃ U M J x y,ps = [.bk U M J,.lst [.int x,.int y]]/\Fl U M J/\(Oj U x y->P (.lst [.int y,.int x]))/\(¬ Oj U x y->X c)
theorem Aj0 (T:Txt K mg t):Binds K t.d_qbm ["book","pair"] []:=T.F_qbm.binds (ps:=["book","pair"]) fun _ _ _ _ _ _ us hl=>match us,hl with | [_,_],_=>rfl
theorem Ah9 (T:Txt K mg t):FnOk P w K mg base (CX1 P w) 3 t.f_qbm t.d_qbm ["book","pair"] (spX K t.C_Book [false,false] .fr (Adx t.C_NoStep)):=by
 refine T.F_qbm.ok1 sc_qbm (fun vs H Q E h=>h.len) (fun cdv A outer s H vs Q E hr h=>?_)
 have hu:=Co hr
 have hu64:=hr.units
 refine ⟨_,(Be (Bt (i:=2) sc_qbm.nd rfl (Or.inl rfl) (Cb (Du K) (pv 1) Bf (fun _ _=>rfl)))
   (Be (Bt (i:=3) sc_qbm.nd rfl (Or.inl rfl) (Cb (Du K) (pv 1) Bf (fun _ _=>rfl)))
   (Be (Di (PW.pt (Td (Cj Ui (Nb (pv 0) T.cl_Book T.M_qv (Af4 T) (hr.mono (by decide)) (Aje T) .nil Bs (Ba (pv 2) Bb)) Bu (Ci _)) (Td (Cj Ui (Nb (pv 0) T.cl_Book T.M_qv (Af4 T) (hr.mono (by decide)) (Aje T) .nil Bs (Ba (pv 3) Bb)) Bu (Ci _)) (Sb (Cj Fr (Nb (pv 0) T.cl_Book T.M_qx (Afm T) (hr.mono (by decide)) (AhJ T) .nil Bs (Ba (pv 2) Bb)) (Nb (pv 0) T.cl_Book T.M_qx (Afm T) (hr.mono (by decide)) (AhJ T) .nil Bs (Ba (pv 3) Bb)) (Ci _))))))
    (Bh (Jt PySem.F.excBase_ValueError T.x_NoStep T.m_NoStep hr.hd rfl (Ba Bu Bb)))
    Cw)
   (Bh (Cc (Cp (Ba (pv 3) (Ba (pv 2) Bb)))))))),?_⟩
 try dsimp only [Cg,Bw]
 refine Lc h (by decide) (fun X=>(Bv (Ct (Fs Bc (EU.eb Bq)))
   (Bv (Ct (Fs Bc (EU.eb Bq)))
   (Bv (Ff (Tj (Ds (EU.eb (Xg (EU.eb (AaR Bc Bc)) (EU.eb Da)))) (Tj (Ds (EU.eb (Xg (EU.eb (AaR Bc Bc)) (EU.eb Da)))) (Ds (EU.eb (Gu (EU.eb (Aaq Bc Bc)) (EU.eb (Aaq Bc Bc)))))))
    (Np (Bz (EU.eb Da) Bl))
    Dn)
   (Ge (Dw 2 (Bx Cz (Bx Cz Bl)))))))) (fun ps P X hp=>?_)
 clear h hu hu64 hr
 obtain ⟨U,M,J,x,y,rfl,bk,q1,q2⟩:=hp
 simp only [Dv,List.zipWith_cons_cons,List.zipWith_nil_left,List.zipWith_nil_right,List.length_cons,List.length_nil,Nat.zero_add,Nat.reduceAdd,Nat.reduceSub,List.replicate_succ,List.replicate_zero,Bool.false_eq_true,if_false,if_true,List.cons_append,List.nil_append,Gk]
 walk_at "pr"
 by_cases hx:Of U M x = "mark"
 ·rw [decide_eq_true hx]
  walk_at "pr"
  by_cases hy:Of U M y = "mark"
  ·rw [decide_eq_true hy]
   walk_at "pr"
   by_cases hr:Cn U x = Cn U y
   ·rw [decide_eq_true hr]
    walk_at "pr"
    exact q2 fun h=>h.2.2 hr
   ·rw [decide_eq_false hr]
    walk_at "pr"
    exact q1 ⟨by have:=Vo bk hx; omega,by have:=Vo bk hy; omega,hr⟩
  ·rw [decide_eq_false hy]
   walk_at "pr"
   exact q2 fun h=>hy (of_decide_eq_true (Zp bk h.2.1))
 ·rw [decide_eq_false hx]
  walk_at "pr"
  exact q2 fun h=>hx (of_decide_eq_true (Zp bk h.1))
def AdT (c:Addr):Gx:=fun ps P X=>∃ U M J s,ps = [.bk U M J,.int s]/\(∀ x y,Ce J s = some (x,y)->P (.lst [.int x,.int y]))/\(Ce J s = none->X c)
theorem Ajq (T:Txt K mg t):Binds K t.d_qbl ["book","sign"] []:=T.F_qbl.binds (ps:=["book","sign"]) fun _ _ _ _ _ _ us hl=>match us,hl with | [_,_],_=>rfl
theorem AhR (T:Txt K mg t):FnOk P w K mg base (CX1 P w) 2 t.f_qbl t.d_qbl ["book","sign"] (spX K t.C_Book [false,false] .fr (AdT t.C_NoStep)):=by
 refine T.F_qbl.ok1 sc_qbl (fun vs H Q E h=>h.len) (fun cdv A outer s H vs Q E hr h=>?_)
 have hu:=Co hr
 have hu64:=hr.units
 refine ⟨_,(Be (Bt (i:=2) sc_qbl.nd rfl (Or.inl rfl) (Nb (pv 0) T.cl_Book T.M_qm (AjU T) (hr.mono (by decide)) (Ak4 T) .nil Bs (Ba (pv 1) Bb)))
   (Be (Di (Rp (Acy (pv 2)))
    (Bh (Jt PySem.F.excBase_ValueError T.x_NoStep T.m_NoStep hr.hd rfl (Ba Bu Bb)))
    Cw)
   (Bh (Cc (Fz (Dz K) rfl T.z_list PyProof.Rows.boot_list (Ba (pv 2) Bb)))))),?_⟩
 try dsimp only [Cg,Bw]
 refine Lc h (by decide) (fun X=>(Bv (Ct (Aei Bc Bc))
   (Bv (Ff (Ds (EU.eb (AdB Bc)))
    (Np (Bz (EU.eb Da) Bl))
    Dn)
   (Ge (Jh (Bz Bc Bl)))))) (fun ps P X hp=>?_)
 clear h hu hu64 hr
 obtain ⟨U,M,J,s,rfl,q1,q2⟩:=hp
 simp only [Dv,List.zipWith_cons_cons,List.zipWith_nil_left,List.zipWith_nil_right,List.length_cons,List.length_nil,Nat.zero_add,Nat.reduceAdd,Nat.reduceSub,List.replicate_succ,List.replicate_zero,Bool.false_eq_true,if_false,if_true,List.cons_append,List.nil_append,Gk]
 walk_at "pr"
 unfold Abd
 cases e:Ce J s with
 | none =>
  rw [show isN PV.non = true from rfl]
  walk_at "pr"
  exact q2 e
 | some p =>
  rw [show isN (.tup [.int p.1,.int p.2]) = false from rfl]
  walk_at "pr"
  exact q1 p.1 p.2 e
def AgA (c:Addr):Gx:=fun ps P X=>∃ U M J x y,ps = [.bk U M J,.lst [.int x,.int y]]/\(∀ w,jnd J x y = some w->P (.lst [.int w]))/\(jnd J x y = none->X c)
theorem AkC (T:Txt K mg t):Binds K t.d_qb ["book","pair"] []:=T.F_qb.binds (ps:=["book","pair"]) fun _ _ _ _ _ _ us hl=>match us,hl with | [_,_],_=>rfl
theorem AjF (T:Txt K mg t):FnOk P w K mg base (CX1 P w) 2 t.f_qb t.d_qb ["book","pair"] (spX K t.C_Book [false,false] .fr (AgA t.C_NoStep)):=by
 refine T.F_qb.ok1 sc_qb (fun vs H Q E h=>h.len) (fun cdv A outer s H vs Q E hr h=>?_)
 have hu:=Co hr
 have hu64:=hr.units
 refine ⟨_,(Be (Bt (i:=2) sc_qb.nd rfl (Or.inl rfl) (Nb (pv 0) T.cl_Book T.M_qh (Akx T) (hr.mono (by decide)) (AkU T) .nil Bs (Ba (Cb (Du K) (pv 1) Bf (fun _ _=>rfl)) (Ba (Cb (Du K) (pv 1) Bf (fun _ _=>rfl)) Bb))))
   (Be (Di (Rp (Acy (pv 2)))
    (Bh (Jt PySem.F.excBase_ValueError T.x_NoStep T.m_NoStep hr.hd rfl (Ba Bu Bb)))
    Cw)
   (Bh (Cc (Cp (Ba (pv 2) Bb)))))),?_⟩
 try dsimp only [Cg,Bw]
 refine Lc h (by decide) (fun X=>(Bv (Ct (Acd Bc (EU.eb (Fs Bc (EU.eb Bq))) (EU.eb (Fs Bc (EU.eb Bq)))))
   (Bv (Ff (Ds (EU.eb (AdB Bc)))
    (Np (Bz (EU.eb Da) Bl))
    Dn)
   (Ge (Dw 1 (Bx Cz Bl)))))) (fun ps P X hp=>?_)
 clear h hu hu64 hr
 obtain ⟨U,M,J,x,y,rfl,q1,q2⟩:=hp
 simp only [Dv,List.zipWith_cons_cons,List.zipWith_nil_left,List.zipWith_nil_right,List.length_cons,List.length_nil,Nat.zero_add,Nat.reduceAdd,Nat.reduceSub,List.replicate_succ,List.replicate_zero,Bool.false_eq_true,if_false,if_true,List.cons_append,List.nil_append,Gk]
 walk_at "pr"
 rw [AjT]
 cases e:jnd J x y with
 | none =>
  rw [show isN PV.non = true from rfl]
  walk_at "pr"
  exact q2 e
 | some p =>
  rw [show isN (.int p) = false from rfl]
  walk_at "pr"
  exact q1 p e
inductive Pip (U:List Sg) (J:List Jn):Str->List Int->List Int->Prop where
 | op {s x y:Int} (h:Ce J s = some (x,y)):Pip U J "open" [s] [x,y]
 | jn {s x y:Int} (h:Ce J s = some (x,y)):Pip U J "join" [x,y] [s]
 | tu {x y:Int} (h:Oj U x y):Pip U J "turn" [x,y] [y,x]
def Ad5 (c:Addr):Gx:=fun ps P X=>∃ U M J w xs,ps = [.bk U M J,.str w,.lst (List.map .int xs)]/\Fl U M J/\((w = "open"/\∃ s,xs = [s])\/((w = "join"\/w = "turn")/\∃ x y,xs = [x,y]))/\(∀ ys,Pip U J w xs ys->P (.lst (List.map .int ys)))/\((¬ ∃ ys,Pip U J w xs ys)->X c)
theorem AkR (T:Txt K mg t):Binds K t.d_qg ["book","word","taken"] []:=T.F_qg.binds (ps:=["book","word","taken"]) fun _ _ _ _ _ _ us hl=>match us,hl with | [_,_,_],_=>rfl
theorem Akc (T:Txt K mg t):FnOk P w K mg base (CX1 P w) 4 t.f_qg t.d_qg ["book","word","taken"] (spX K t.C_Book [false,false,false] .fr (Ad5 t.C_NoStep)):=by
 refine T.F_qg.ok1 Akd (fun vs H Q E h=>h.len) (fun cdv A outer s H vs Q E hr h=>?_)
 have hu:=Co hr
 have hu64:=hr.units
 refine ⟨_,(Be (Di (Cj Fr (pv 1) Bu (Ci _))
    (Bh (Cc (Bo (Ah9 T) (hr.mono (by decide)) rfl T.m_qbm T.F_qbm.kp (Aj0 T) .nil Bs (Ba (pv 0) (Ba (pv 2) Bb)))))
    Cw)
   (Be (Di (Cj Fr (pv 1) Bu (Ci _))
    (Bh (Cc (Bo (AhR T) (hr.mono (by decide)) rfl T.m_qbl T.F_qbl.kp (Ajq T) .nil Bs (Ba (pv 0) (Ba (Cb (Du K) (pv 2) Bf (fun _ _=>rfl)) Bb)))))
    Cw)
   (Be (Di (Cj Fr (pv 1) Bu (Ci _))
    (Bh (Cc (Bo (AjF T) (hr.mono (by decide)) rfl T.m_qb T.F_qb.kp (AkC T) .nil Bs (Ba (pv 0) (Ba (pv 2) Bb)))))
    Cw)
   (Bh (Jt PySem.F.excBase_ValueError T.x_NoStep T.m_NoStep hr.hd rfl (Ba Bu Bb)))))),?_⟩
 try dsimp only [Cg,Bw]
 refine Lc h (by decide) (fun X=>(Bv (Ff (Ds (EU.eb (Gu Bc (EU.eb Da))))
    (Ge (Qi (Bz Bc (Bz Bc Bl))))
    Dn)
   (Bv (Ff (Ds (EU.eb (Gu Bc (EU.eb Da))))
    (Ge (Qi (Bz Bc (Bz (EU.eb (Fs Bc (EU.eb Bq))) Bl))))
    Dn)
   (Bv (Ff (Ds (EU.eb (Gu Bc (EU.eb Da))))
    (Ge (Qi (Bz Bc (Bz Bc Bl))))
    Dn)
   (Np (Bz (EU.eb Da) Bl)))))) (fun ps P X hp=>?_)
 clear h hu hu64 hr
 obtain ⟨U,M,J,w,xs,rfl,bk,h,q1,q2⟩:=hp
 simp only [Dv,List.zipWith_cons_cons,List.zipWith_nil_left,List.zipWith_nil_right,List.length_cons,List.length_nil,Nat.zero_add,Nat.reduceAdd,Nat.reduceSub,List.replicate_succ,List.replicate_zero,Bool.false_eq_true,if_false,if_true,List.cons_append,List.nil_append,Gk]
 rcases h with ⟨rfl,s,rfl⟩ | ⟨rfl | rfl,x,y,rfl⟩
 ·walk_at "pr"
  rw [decide_eq_false (by decide +kernel)]
  walk_at "pr"
  rw [decide_eq_true rfl]
  walk_at "pr"
  refine Yh ?_
  walk_at "pr"
  refine ⟨U,M,J,s,rfl,fun x y e=>q1 [x,y] (.op e),fun e=>q2 ?_⟩
  rintro ⟨ys,h⟩
  cases h with
  | op h=>rw [h] at e; cases e
 ·walk_at "pr"
  rw [decide_eq_false (by decide +kernel)]
  walk_at "pr"
  rw [decide_eq_false (by decide +kernel)]
  walk_at "pr"
  rw [decide_eq_true rfl]
  walk_at "pr"
  refine ⟨U,M,J,x,y,rfl,fun w e=>q1 [w] (.jn (Nq bk e)),fun e=>q2 ?_⟩
  rintro ⟨ys,h⟩
  cases h with
  | jn h=>rw [Jr bk h] at e; cases e
 ·walk_at "pr"
  rw [decide_eq_true rfl]
  walk_at "pr"
  refine ⟨U,M,J,x,y,rfl,bk,fun h=>q1 [y,x] (.tu h),fun h=>q2 ?_⟩
  rintro ⟨ys,h2⟩
  cases h2 with
  | tu h2=>exact h h2
theorem AeS {a b:List Int} {x:Int}:((a ++ x :: b).take (a.length + 1)).drop a.length = [x]:=by
 rw [List.drop_take,List.drop_append,List.drop_of_length_le (Nat.le_refl _)]; simp
theorem AeR {a b:List Int} {x y:Int}:((a ++ x :: y :: b).take (a.length + 2)).drop a.length = [x,y]:=by
 rw [List.drop_take,List.drop_append,List.drop_of_length_le (Nat.le_refl _)]; simp
theorem Aff {α:Type} (xs:List α) (p q:Nat):Fy xs (some (p:Int)) (some (q:Int)) = (xs.take q).drop p:=by
 unfold Fy
 rw [HT.sIx_nat,HT.sIx_nat,List.drop_take]
 by_cases h:p <= xs.length
 ·rw [Nat.min_eq_left h]
  by_cases h2:q <= xs.length
  ·rw [Nat.min_eq_left h2]
  ·rw [Nat.min_eq_right (by omega),List.take_of_length_le (by rw [List.length_drop]; omega),List.take_of_length_le (by rw [List.length_drop]; omega)]
 ·rw [Nat.min_eq_right (show xs.length <= p by omega),List.drop_of_length_le (Nat.le_refl _),List.drop_of_length_le (by omega),List.take_nil,List.take_nil]
def wds:List Str:=["turn","open","join"]
def AdE (c:Addr):Gx:=fun ps P X=>∃ U M J ts w k,ps = [.bk U M J,.lst (List.map .int ts),swP (w,k)]/\Fl U M J/\ts.length <= 299/\w ∈ wds/\(∀ us,Stw U J ts (w,k) us->P (.lst (List.map .int us)))/\(¬ Brs U J ts (w,k)->X c)
theorem Xm (T:Txt K mg t):Binds K t.d_qbh ["book","text","step"] []:=T.F_qbh.binds (ps:=["book","text","step"]) fun _ _ _ _ _ _ us hl=>match us,hl with | [_,_,_],_=>rfl
theorem Ve (T:Txt K mg t):FnOk P w K mg base (CX1 P w) 5 t.f_qbh t.d_qbh ["book","text","step"] (spX K t.C_Book [false,false,true] .fr (AdE t.C_NoStep)):=by
 refine T.F_qbh.ok1 sc_qbh (fun vs H Q E h=>h.len) (fun cdv A outer s H vs Q E hr h=>?_)
 have hu:=Co hr
 have hu64:=hr.units
 refine ⟨_,(Be (Bt (i:=3) sc_qbh.nd rfl (Or.inl rfl) (Cb (Dd K) (pv 2) Bf (fun _ _=>rfl)))
   (Be (Bt (i:=4) sc_qbh.nd rfl (Or.inl rfl) (Cb (Dd K) (pv 2) Bf (fun _ _=>rfl)))
   (Be (Bt (i:=5) sc_qbh.nd rfl (Or.inl rfl) (Ae0 (Cj Fr (pv 3) Bu (Ci _)) (Bp Do (pv 4) Bf) (Bp Do (pv 4) Bf)))
   (Be (Di (PW.pt (Td (Cj AfI (pv 4) Bf (Ci _)) (Sb (Cj Xk (pv 5) (Ck (Fp K) rfl T.z_len PySem.boot_len (Ba (pv 1) Bb)) (Ci _)))))
    (Bh (Jt PySem.F.excBase_ValueError T.x_NoStep T.m_NoStep hr.hd rfl (Ba Bu Bb)))
    Cw)
   (Bh (Cc (Bp Fd (Bp Fd (Dk (Dx K) (pv 1) Fj (Dl (pv 4))) (Bo (Akc T) (hr.mono (by decide)) rfl T.m_qg T.F_qg.kp (AkR T) .nil Bs (Ba (pv 0) (Ba (pv 3) (Ba (Dk (Dx K) (pv 1) (Dl (pv 4)) (Dl (pv 5))) Bb))))) (Dk (Dx K) (pv 1) (Dl (pv 5)) Fj)))))))),?_⟩
 try dsimp only [Cg,Bw]
 refine Lc h (by decide) (fun X=>(Bv (Ct (Dq Bc (EU.eb Bq)))
   (Bv (Ct (Dq Bc (EU.eb Bq)))
   (Bv (Ct (Ajy (Ds (EU.eb (Gu Bc (EU.eb Da)))) (Fg (fun _ _ _=>.int _) Bc (EU.eb Bq)) (Fg (fun _ _ _=>.int _) Bc (EU.eb Bq))))
   (Bv (Ff (Tj (Ds (EU.eb (Fg (fun _ _ _=>.bl _) Bc (EU.eb Bq)))) (Ds (EU.eb (Fg (fun _ _ _=>.bl _) Bc (EU.eb (Og (Bz Bc Bl)))))))
    (Np (Bz (EU.eb Da) Bl))
    Dn)
   (Ge (Gb (EF.eb (Gb (EF.eb (Gr Bc Jg (Fo Bc))) (EF.eb (Qi (Bz Bc (Bz Bc (Bz (EF.eb (Gr Bc (Fo Bc) (Fo Bc))) Bl))))))) (EF.eb (Gr Bc (Fo Bc) Jg))))))))) (fun ps P X hp=>?_)
 clear h hu hu64 hr
 obtain ⟨U,M,J,ts,w,k,rfl,bk,hl,hw,q1,q2⟩:=hp
 simp only [Dv,List.zipWith_cons_cons,List.zipWith_nil_left,List.zipWith_nil_right,List.length_cons,List.length_nil,Nat.zero_add,Nat.reduceAdd,Nat.reduceSub,List.replicate_succ,List.replicate_zero,Bool.false_eq_true,if_false,if_true,List.cons_append,List.nil_append,Gk]
 have c3:∀ {ys:List Int} {xs:List Int} {w:Str},Pip U J w xs ys->ys.length <= 2:=fun h=>by cases h <;> simp
 walk_at "pr"
 by_cases ho:w = "open"
 ·rw [decide_eq_true ho]
  subst ho
  walk_at "pr"
  by_cases h0:k < 0
  ·rw [decide_eq_true h0]
   walk_at "pr"
   exact q2 fun h=>by obtain ⟨a,e,_⟩:=brs_iff.mp h; omega
  rw [decide_eq_false h0]
  walk_at "pr"
  obtain ⟨a,rfl⟩:=Int.eq_ofNat_of_zero_le (show 0 <= k by omega)
  by_cases h1:ts.length < a + 1
  ·rw [decide_eq_true (by rw [List.length_map]; omega)]
   walk_at "pr"
   refine q2 fun hb=>?_
   obtain ⟨b,e,h⟩:=brs_iff.mp hb
   clear hb
   have:b = a:=by omega
   subst this
   rcases h with ⟨e1,s,p,g1,_⟩ | ⟨e1,x,y,s,_,g1,_⟩ | ⟨e1,x,y,_,g1,_⟩
   ·have:=(List.getElem?_eq_some_iff.mp g1).1; omega
   ·have:=(List.getElem?_eq_some_iff.mp g1).1; omega
   ·have:=(List.getElem?_eq_some_iff.mp g1).1; omega
  rw [decide_eq_false (by rw [List.length_map]; omega)]
  have c0:∀ lo hi,(Fy (ts.map PV.int) lo hi).length <= 300:=fun lo hi=>Nat.le_trans (Nu _ _ _) (by rw [List.length_map]; omega)
  have c1:=c0 none (some (a:Int))
  have c2:=c0 (some ((a + 1:Nat):Int)) none
  walk_at "pr"
  rw [show (a:Int) + 1 = ((a + 1:Nat):Int) by omega,Fc (lo:=some _),Aff]
  obtain ⟨s,hs⟩:∃ s,ts[a]? = some s:=⟨_,List.getElem?_eq_getElem (by omega)⟩
  obtain ⟨e1,e2⟩:=Yc hs
  have ec:(ts.take (a + 1)).drop a = [s]:=by
   have:=AeS (a:=ts.take a) (b:=ts.drop (a + 1)) (x:=s)
   rw [<- e1,e2] at this
   exact this
  rw [ec]
  refine ⟨U,M,J,_,[s],rfl,bk,.inl ⟨rfl,s,rfl⟩,fun ys hy=>?_,fun hn=>q2 fun hb=>?_⟩
  ·have ly:=c3 hy
   cases hy with
   | @op _ x y h =>
   have:=Stw.op (U:=U) (a:=ts.take a) (b:=ts.drop (a + 1)) h
   rw [<- e1,e2] at this
   walk_at "pr"
   all_goals try (simp only [List.length_append,List.length_cons,List.length_nil,List.length_map]; omega)
   rw [Fc,Uh,Fc,Us]
   simpa using q1 _ this
  ·obtain ⟨b,e,h⟩:=brs_iff.mp hb
   have:b = a:=by omega
   subst this
   rcases h with ⟨_,s',p,g1,g2⟩ | ⟨z,_⟩ | ⟨z,_⟩
   ·rw [hs] at g1
    cases g1
    exact hn ⟨_,.op (x:=p.1) (y:=p.2) g2⟩
   ·exact absurd z (by decide +kernel)
   ·exact absurd z (by decide +kernel)
 ·rw [decide_eq_false ho]
  walk_at "pr"
  by_cases h0:k < 0
  ·rw [decide_eq_true h0]
   walk_at "pr"
   exact q2 fun h=>by obtain ⟨a,e,_⟩:=brs_iff.mp h; omega
  rw [decide_eq_false h0]
  walk_at "pr"
  obtain ⟨a,rfl⟩:=Int.eq_ofNat_of_zero_le (show 0 <= k by omega)
  by_cases h1:ts.length < a + 2
  ·rw [decide_eq_true (by rw [List.length_map]; omega)]
   walk_at "pr"
   refine q2 fun hb=>?_
   obtain ⟨b,e,h⟩:=brs_iff.mp hb
   clear hb
   have:b = a:=by omega
   subst this
   rcases h with ⟨e1,s,p,g1,_⟩ | ⟨e1,x,y,s,_,g1,_⟩ | ⟨e1,x,y,_,g1,_⟩
   ·have:=(List.getElem?_eq_some_iff.mp g1).1; exact ho e1
   ·have:=(List.getElem?_eq_some_iff.mp g1).1; omega
   ·have:=(List.getElem?_eq_some_iff.mp g1).1; omega
  rw [decide_eq_false (by rw [List.length_map]; omega)]
  have c0:∀ lo hi,(Fy (ts.map PV.int) lo hi).length <= 300:=fun lo hi=>Nat.le_trans (Nu _ _ _) (by rw [List.length_map]; omega)
  have c1:=c0 none (some (a:Int))
  have c2:=c0 (some ((a + 2:Nat):Int)) none
  walk_at "pr"
  rw [show (a:Int) + 2 = ((a + 2:Nat):Int) by omega,Fc (lo:=some _),Aff]
  obtain ⟨x,hx⟩:∃ s,ts[a]? = some s:=⟨_,List.getElem?_eq_getElem (by omega)⟩
  obtain ⟨y,hy⟩:∃ s,ts[a + 1]? = some s:=⟨_,List.getElem?_eq_getElem (by omega)⟩
  obtain ⟨e1,e2⟩:=Rt hx hy
  have ec:(ts.take (a + 2)).drop a = [x,y]:=by
   have:=AeR (a:=ts.take a) (b:=ts.drop (a + 2)) (x:=x) (y:=y)
   rw [<- e1,e2] at this
   exact this
  rw [ec]
  have hw2:w = "join"\/w = "turn":=by
   simp only [wds,List.mem_cons,List.not_mem_nil,or_false] at hw
   rcases hw with h | h | h
   ·exact .inr h
   ·exact absurd h ho
   ·exact .inl h
  refine ⟨U,M,J,_,[x,y],rfl,bk,.inr ⟨hw2,x,y,rfl⟩,fun ys hp=>?_,fun hn=>q2 fun hb=>?_⟩
  ·have ly:=c3 hp
   have:Stw U J ts (w,(a:Int)) (ts.take a ++ (ys ++ ts.drop (a + 2))):=by
    cases hp with
    | jn h =>
     have:=Stw.jn (U:=U) (a:=ts.take a) (b:=ts.drop (a + 2)) h
     rw [<- e1,e2] at this
     exact this
    | tu h =>
     have:=Stw.tu (J:=J) (a:=ts.take a) (b:=ts.drop (a + 2)) h.1 h.2.1 h.2.2
     rw [<- e1,e2] at this
     exact this
   walk_at "pr"
   all_goals try (simp only [List.length_append,List.length_cons,List.length_nil,List.length_map]; omega)
   rw [Fc,Uh,Fc,Us]
   simpa using q1 _ this
  ·obtain ⟨b,e,h⟩:=brs_iff.mp hb
   have:b = a:=by omega
   subst this
   rcases h with ⟨z,_⟩ | ⟨z,x',y',s',g1,g2,g3⟩ | ⟨z,x',y',g1,g2,g3⟩
   ·exact ho z
   ·rw [hx] at g1; rw [hy] at g2
    cases g1; cases g2
    subst z
    exact hn ⟨_,.jn g3⟩
   ·rw [hx] at g1; rw [hy] at g2
    cases g1; cases g2
    subst z
    exact hn ⟨_,.tu g3⟩
theorem Ag7 {x y:Bool}:CmpL [.bl x,.bl y] [.bl x,.bl y]:=fun _ i u v hu hv=>by
 match i,hu,hv with
 | 0,hu,hv=>cases hu; cases hv; exact .bl
 | 1,hu,hv=>cases hu; cases hv; exact .bl
 | _ + 2,hu,_=>simp at hu
theorem AiW {xs ys:List PV} {b:Bool} {P:PV->Prop} (h:b = true->xs = ys) (hl:xs.length ≠ ys.length) (q:P (.bl false)):Zt false (.lst xs) (.lst ys) P:=⟨xs,ys,rfl,rfl,(fun z=>absurd z hl),fun b hb=>by
 have:b = false:=by
  cases b with
  | false=>rfl
  | true=>exact absurd (congrArg List.length (hb.mp rfl)) hl
 rw [this]; exact q⟩
def Aem:PSp:=fun ps P=>∃ U M J ts w k,ps = [.bk U M J,.lst (List.map .int ts),swP (w,k)]/\Fl U M J/\ts.length <= 299/\w ∈ wds/\(Brs U J ts (w,k)->P (.bl false))/\(¬ Brs U J ts (w,k)->P (.bl true))
theorem AbT (T:Txt K mg t):Binds K t.d_qj ["_law_book","_law_text_here","_law_step"] []:=T.F_qj.binds (ps:=["_law_book","_law_text_here","_law_step"]) fun _ _ _ _ _ _ us hl=>match us,hl with | [_,_,_],_=>rfl
theorem Xo (T:Txt K mg t):FnOk P w K mg base (CX1 P w) 6 t.f_qj t.d_qj ["_law_book","_law_text_here","_law_step"] (spOf K t.C_Book [false,false,true] .sh Aem):=by
 refine T.F_qj.ok1 sc_qj (fun vs H Q E h=>h.len) (fun cdv A outer s H vs Q E hr h=>?_)
 have hu:=Co hr
 have hu64:=hr.units
 refine ⟨_,(Be (Bt (i:=3) sc_qj.nd rfl (Or.inl rfl) (Cp Bb))
   (Be (Bt (i:=4) sc_qj.nd rfl (Or.inl rfl) (Cp Bb))
   (Be (AiF (S:=fun C=>C = t.C_NoStep) (i:=5) rfl rfl (Ad4 (Aet rfl (Ve T) (hr.mono (by decide)) rfl T.m_qbh T.F_qbh.kp (Xm T) .nil (Ba (pv 0) (Ba (pv 1) (Ba (pv 2) Bb))))) (fun _=>(Be (Bt (i:=3) sc_qj.nd rfl (Or.inl rfl) (Cp (Ba (Ck (Fn K) rfl T.z_isinstance PyProof.Rows.boot_isinstance (Ba (pv 5) (Ba (Ji (v:=.ref t.C_NoStep) rfl T.m_NoStep rfl) Bb))) (Ba (Ck (Fn K) rfl T.z_isinstance PyProof.Rows.boot_isinstance (Ba (pv 5) (Ba (Nd (v:=.ty "ValueError") rfl T.z_ValueError L2.AfU rfl) Bb))) Bb))))
   (Bh (Bt (i:=4) sc_qj.nd rfl (Or.inl rfl) (Cp (Ba (Ck (Fn K) rfl T.z_isinstance PyProof.Rows.boot_isinstance (Ba (pv 5) (Ba (Ji (v:=.ref t.C_NoBook) rfl T.m_NoBook rfl) Bb))) (Ba (Ck (Fn K) rfl T.z_isinstance PyProof.Rows.boot_isinstance (Ba (pv 5) (Ba (Ji (v:=.ref t.C_NoPlace) rfl T.m_NoPlace rfl) Bb))) (Ba (Ck (Fn K) rfl T.z_isinstance PyProof.Rows.boot_isinstance (Ba (pv 5) (Ba (Ji (v:=.ref t.C_NoWhat) rfl T.m_NoWhat rfl) Bb))) (Ba (Ck (Fn K) rfl T.z_isinstance PyProof.Rows.boot_isinstance (Ba (pv 5) (Ba (Ji (v:=.ref t.C_NoWidth) rfl T.m_NoWidth rfl) Bb))) Bb))))))))) rfl T.m_HandsError T.x_HandsError (by decide) (fun C e=>⟨"NoStep",[.type "ValueError",.type "Exception",.type "BaseException",.type "object"],"ValueError.__new__",by rw [e]; exact T.m_NoStep,by rw [e]; exact T.x_NoStep,by rw [e]; exact T.r_NoStep_HandsError⟩) sc_qj.nd rfl rfl)
   (Bh (Cc (Le (Gc (AaX K hu64) (pv 3) (Cp (Ba Qd (Ba Qd Bb))) (Ci _)) (Ni (Adh (Ck (Aez hr.hd K) rfl T.z_any PyProof.Rows.boot_any (Ba (pv 4) Bb)))))))))),?_⟩
 try dsimp only [Cg,Bw]
 refine Gi h (by decide) (Bv (Ct (EF.eu (Dw 0 Bl)))
   (Bv (Ct (EF.eu (Dw 0 Bl)))
   (Bv (AiO (Agk (Bz Bc (Bz Bc (Bx Cz Bl))))
    (Bv (Ct (EF.eu (Dw 2 (Bx (On (Bz Bc (Bx (Qh fun _=>.cls) Bl))) (Bx (On (Bz Bc (Bx (Qh fun _=>.ty) Bl))) Bl)))))
   (Ct (EF.eu (Dw 4 (Bx (On (Bz Bc (Bx (Qh fun _=>.cls) Bl))) (Bx (On (Bz Bc (Bx (Qh fun _=>.cls) Bl))) (Bx (On (Bz Bc (Bx (Qh fun _=>.cls) Bl))) (Bx (On (Bz Bc (Bx (Qh fun _=>.cls) Bl))) Bl)))))))))
   (Oh (Aa2 (EU.eb (Rx Bc (EF.eb (Dw 2 (Bx Te (Bx Te Bl)))))) (AgH (EU.eb (Ahj (Bz Bc Bl))))))))) (fun ps P hp=>?_)
 clear h hu hu64 hr
 obtain ⟨U,M,J,ts,w,k,rfl,bk,hl,hw,q1,q2⟩:=hp
 simp only [Dv,List.zipWith_cons_cons,List.zipWith_nil_left,List.zipWith_nil_right,List.length_cons,List.length_nil,Nat.zero_add,Nat.reduceAdd,Nat.reduceSub,List.replicate_succ,List.replicate_zero,Bool.false_eq_true,if_false,if_true,List.cons_append,List.nil_append,Gk]
 have NN:=T.N_NoStep
 walk_at "pr"
 refine ⟨U,M,J,ts,w,k,rfl,bk,hl,hw,fun us hs=>?_,fun hb=>⟨rfl,?_⟩⟩
 ·have q:=q1 ⟨us,hs⟩
  walk_at "pr"
  refine AiW (b:=false) (fun h=>by cases h) (by decide) ?_
  walk_at "pr"
  exact q
 ·have q:=q2 hb
  walk_at "pr"
  refine Sx ⟨NN,T.i_NoStep_NoStep⟩ ?_
  walk_at "pr"
  refine Sx ⟨NN,T.i_NoStep_ValueError⟩ ?_
  walk_at "pr"
  refine Sx ⟨NN,T.i_NoStep_NoBook⟩ ?_
  walk_at "pr"
  refine Sx ⟨NN,T.i_NoStep_NoPlace⟩ ?_
  walk_at "pr"
  refine Sx ⟨NN,T.i_NoStep_NoWhat⟩ ?_
  walk_at "pr"
  refine Sx ⟨NN,T.i_NoStep_NoWidth⟩ ?_
  walk_at "pr"
  refine Yp Ag7 ?_
  walk_at "pr"
  refine Ae9 (bs:=[false,false,false,false]) ?_
  walk_at "pr"
  exact q
def AgB:PSp:=fun ps P=>∃ ns k,ps = [.scr ns,.int k]/\0 <= k/\∀ x:Int,P (.int x)
theorem Acq {C:Addr} {ω:Om} {E:XK} {m n:Bool} {t:TA} {u:UA} (ha:AU K C ω [m,n] t u):EU K C ω (Ob (Zd K) [] E t) (Ug AgB u) :=
 fun B G0 H0 own G σ H ρ P Q S hu k=>ha B G0 H0 own G σ H ρ _ _ S hu fun vs ps G1 H1 w1 ok ⟨ns,i,e,h0,h⟩=>by
  obtain ⟨v,w,p,q,rfl,e2,r1,r2⟩:=Uq ok
  rw [e] at e2; cases e2
  obtain ⟨a,rfl,sq⟩:=r1.scr w1.i
  rw [r2.int]
  exact ⟨a,ns,i,rfl,sq,h0,k _ _ G1 H1 w1 (.int _) (h _)⟩
theorem AdU (lo:Int) (n:Nat):(Sm lo n).length = n:=by unfold Sm; simp
theorem AdR {lo:Int} {n:Nat} {p:PV} (h:p ∈ Sm lo n):∃ i,p = .int i:=by
 unfold Sm at h
 obtain ⟨k,_,e⟩:=List.mem_map.mp h
 exact ⟨_,e.symm⟩
theorem AjW:("turn" : Str) ∈ wds:=.head _
theorem AbQ:("open" : Str) ∈ wds:=.tail _ (.head _)
theorem Afp:("join" : Str) ∈ wds:=.tail _ (.tail _ (.head _))
theorem Aha {U:List Sg} {J:List Jn} {w x y:Int} {us:List Int} (h:Stw U J [w] ("open",0) us) (e:Ce J w = some (x,y)):us = [x,y]:=by
 generalize e1:[w] = l at h
 generalize e2:(("open" : Str),(0:Int)) = s at h
 cases h with
 | @op a b s' x' y' h =>
  have:a.length = 0:=by have:=(Prod.mk.inj e2).2; omega
  have ha:=List.eq_nil_of_length_eq_zero this
  subst ha
  injection e1 with e3 e4
  subst e3 e4
  rw [e] at h
  cases h; rfl
 | jn h=>exact absurd (Prod.mk.inj e2).1 (by decide +kernel)
 | tu h=>exact absurd (Prod.mk.inj e2).1 (by decide +kernel)
theorem Ags {U:List Sg} {M:List (Int × Int)} {J:List Jn} (bk:Fl U M J) {w x y:Int} {us:List Int} (h:Stw U J [x,y] ("join",0) us) (e:Ce J w = some (x,y)):us = [w]:=by
 generalize e1:[x,y] = l at h
 generalize e2:(("join" : Str),(0:Int)) = s at h
 cases h with
 | op h=>exact absurd (Prod.mk.inj e2).1 (by decide +kernel)
 | @jn a b s' x' y' h =>
  have:a.length = 0:=by have:=(Prod.mk.inj e2).2; omega
  have ha:=List.eq_nil_of_length_eq_zero this
  subst ha
  injection e1 with e3 e4
  injection e4 with e4 e5
  subst e3 e4 e5
  have h1:=Jr bk h
  rw [Jr bk e] at h1
  cases h1; rfl
 | tu h=>exact absurd (Prod.mk.inj e2).1 (by decide +kernel)
theorem AiC {s:Str × Int} {ss:List (Str × Int)} {P:PV->Prop} (h1:¬ s ∈ ss->P (.bl true)) (h2:s ∈ ss->P (.bl false)):Ae2 (swP s) (.lst (ss.map swP)) P:=by
 refine ⟨ss.map swP,rfl,fun x hx=>?_,fun x hx=>?_,fun b hb=>?_⟩
 ·obtain ⟨z,_,rfl⟩:=List.mem_map.mp hx; exact ⟨_,rfl⟩
 ·obtain ⟨z,_,rfl⟩:=List.mem_map.mp hx
  refine .tup (n:=39) fun i u v hu hv=>?_
  match i,hu,hv with
  | 0,hu,hv=>cases hu; cases hv; exact .flat rfl rfl
  | 1,hu,hv=>cases hu; cases hv; exact .flat rfl rfl
  | _ + 2,hu,_=>simp at hu
 ·have hm:swP s ∈ ss.map swP ↔ s ∈ ss:=by
   constructor
   ·intro h
    obtain ⟨z,hz,e⟩:=List.mem_map.mp h
    have e':PV.tup [.str z.1,.int z.2] = .tup [.str s.1,.int s.2]:=e
    injection e' with e'
    injection e' with e1 e2
    injection e2 with e2
    injection e1 with e1
    injection e2 with e2
    rwa [<- show z = s from Prod.ext e1 e2]
   ·exact fun h=>List.mem_map.mpr ⟨s,h,rfl⟩
  by_cases h:s ∈ ss
  ·rw [hb.mpr (hm.mpr h)]; exact h2 h
  ·have:b = false:=by
    cases b with
    | false=>rfl
    | true=>exact absurd (hm.mp (hb.mp rfl)) h
   rw [this]; exact h1 h
theorem Ak7 (T:Txt K mg t):Binds K t.d_qbo ["_law_script"] []:=T.F_qbo.binds (ps:=["_law_script"]) fun _ _ _ _ _ _ us hl=>match us,hl with | [_],_=>rfl
theorem Aie (T:Txt K mg t):FnOk P w K mg base (CX1 P w) 7 t.f_qbo t.d_qbo ["_law_script"] (spOf K t.C_Book [false] .sh AaY):=by
 refine T.F_qbo.ok1 sc_qbo (fun vs H Q E h=>h.len) (fun cdv A outer s H vs Q E hr h=>?_)
 have hu:=Co hr
 have hu64:=hr.units
 refine ⟨_,(Be (Bt (i:=1) sc_qbo.nd rfl (Or.inl rfl) (Bo (Ahc T) (hr.mono (by decide)) rfl T.m_qbc T.F_qbc.kp (Aj1 T) .nil Bs (Ba (pv 0) Bb)))
   (Be (Bt (i:=2) sc_qbo.nd rfl (Or.inl rfl) (Bo (Ah6 T) (hr.mono (by decide)) rfl T.m_qbf T.F_qbf.kp (AjV T) .nil Bs (Ba (pv 1) Bb)))
   (Be (Bt (i:=3) sc_qbo.nd rfl (Or.inl rfl) (Bo (Ai7 T) (hr.mono (by decide)) rfl T.m_qbe T.F_qbe.kp (Akb T) .nil Bs (Ba (pv 1) Bb)))
   (Be (Bt (i:=4) sc_qbo.nd rfl (Or.inl rfl) (Bo (Akf T) (hr.mono (by decide)) rfl T.m_qr T.F_qr.kp (AkH T) .nil Bs (Ba (pv 3) Bb)))
   (Be (Bt (i:=5) sc_qbo.nd rfl (Or.inl rfl) (Bo (AiY T) (hr.mono (by decide)) rfl T.m_qbj T.F_qbj.kp (Akh T) .nil Bs (Ba (Dk (Dx K) (pv 0) (Dl Bf) (Dl Bf)) (Ba (pv 1) Bb))))
   (Be (Bt (i:=6) sc_qbo.nd rfl (Or.inl rfl) (Ago T.K_Book (Aju T) (hr.mono (by decide)) rfl T.m_Book (Ak1 T) .nil Bs (Ba (Fz (Dz K) rfl T.z_list PyProof.Rows.boot_list (Ba (Cb (Dd K) (pv 1) Bf (fun _ _=>rfl)) Bb)) (Ba (Fz (Dz K) rfl T.z_list PyProof.Rows.boot_list (Ba (Cb (Dd K) (pv 1) Bf (fun _ _=>rfl)) Bb)) (Ba (Fz (Dz K) rfl T.z_list PyProof.Rows.boot_list (Ba (Cb (Dd K) (pv 1) Bf (fun _ _=>rfl)) Bb)) Bb)))))
   (Be (Bt (i:=7) sc_qbo.nd rfl (Or.inl rfl) (Bo (AiR T) (hr.mono (by decide)) rfl T.m_qba T.F_qba.kp (AjG T) .nil Bs (Ba (pv 5) (Ba (pv 2) (Ba (pv 3) (Ba (pv 4) Bb))))))
   (Be (Bt (i:=8) sc_qbo.nd rfl (Or.inl rfl) (Bp Do Bf (Bp Cv (Bo (Lb T) (hr.mono (by decide)) rfl T.m_qi T.F_qi.kp (Oe T) .nil Bs (Ba (pv 0) (Ba Bf Bb))) (Bp Jk Bf Bf))))
   (Be (Bt (i:=9) sc_qbo.nd rfl (Or.inl rfl) (Fz (Dz K) rfl T.z_list PyProof.Rows.boot_list (Ba (pv 5) Bb)))
   (Be (Dm PassesOwn.leaving rfl (Dh (Bp Fd (Acp rfl rfl T.z_list rfl T.z_range (Ba (AfC AcV Bf) (Ba (Bp Do (Ck (Fp K) rfl T.z_len PySem.boot_len (Ba (pv 5) Bb)) Bf) Bb))) (Cp (Ba (Bp Uw Bf (pv 8)) (Ba (Bp Do (Ck (Fp K) rfl T.z_len PySem.boot_len (Ba (pv 5) Bb)) (pv 8)) Bb))))) (By (i:=10) sc_qbo.nd rfl (Or.inl rfl))
    (Bh (Dm PassesOwn.leaving rfl (Dh (Cp (Ba Bu (Ba Bu (Ba Bu Bb))))) (By (i:=11) sc_qbo.nd rfl (Or.inl rfl))
    (Bh (Di (Cj (Xc hu64) (Cq (Ba (pv 11) (Ba (pv 10) Bb))) (pv 7) rfl)
    (Bh (Di (Ry (Sn (Bo (Xo T) (hr.mono (by decide)) rfl T.m_qj T.F_qj.kp (AbT T) .nil Bs (Ba (pv 6) (Ba (pv 9) (Ba (Cq (Ba (pv 11) (Ba (pv 10) Bb))) Bb))))))
    (Bh (Cc Qd))
    Cw))
    (Bh (Di (Cj (Vw K hu64) (Bo (Ve T) (hr.mono (by decide)) rfl T.m_qbh T.F_qbh.kp (Xm T) .nil Bs (Ba (pv 6) (Ba (pv 9) (Ba (Cq (Ba (pv 11) (Ba (pv 10) Bb))) Bb)))) (Bo (Aku T) (hr.mono (by decide)) rfl T.m_qk T.F_qk.kp (AkO T) .nil Bs (Ba (pv 5) (Ba (Cq (Ba (pv 11) (Ba (pv 10) Bb))) (Ba (pv 3) (Ba (pv 4) Bb))))) (Ci _))
    (Bh (Cc Qd))
    Cw)))))))
   (Be (Di (Cj Xk (Ck Wt rfl T.z_len PySem.boot_len (Ba (pv 3) Bb)) Bf (Ci _))
    (Be (Bt (i:=12) sc_qbo.nd rfl (Or.inl rfl) (Cb (Du K) (Ck (Rq hr.hd) rfl T.z_sorted PyProof.Rows.boot_sorted (Ba (pv 3) Bb)) (Bp Cv (Bo (Lb T) (hr.mono (by decide)) rfl T.m_qi T.F_qi.kp (Oe T) .nil Bs (Ba (pv 0) (Ba Bf Bb))) (Ck Wt rfl T.z_len PySem.boot_len (Ba (pv 3) Bb))) (fun _ _=>rfl)))
   (Be (Di (PW.pt (Td (Cj (Vw K hu64) (Bo (Ve T) (hr.mono (by decide)) rfl T.m_qbh T.F_qbh.kp (Xm T) .nil Bs (Ba (pv 6) (Ba (Cp (Ba (pv 12) Bb)) (Ba (Cq (Ba Bu (Ba Bf Bb))) Bb)))) (Fz (Dz K) rfl T.z_list PyProof.Rows.boot_list (Ba (Nc hu (pv 3) (pv 12) (fun _ _=>rfl)) Bb)) (Ci _)) (Sb (Ry (Sn (Bo (Xo T) (hr.mono (by decide)) rfl T.m_qj T.F_qj.kp (AbT T) .nil Bs (Ba (pv 6) (Ba (Cp (Ba (pv 12) Bb)) (Ba (Cq (Ba Bu (Ba Bf Bb))) Bb)))))))))
    (Bh (Cc Qd))
    Cw)
   (Bh (Di (PW.pt (Td (Cj (Vw K hu64) (Bo (Ve T) (hr.mono (by decide)) rfl T.m_qbh T.F_qbh.kp (Xm T) .nil Bs (Ba (pv 6) (Ba (Fz (Dz K) rfl T.z_list PyProof.Rows.boot_list (Ba (Nc hu (pv 3) (pv 12) (fun _ _=>rfl)) Bb)) (Ba (Cq (Ba Bu (Ba Bf Bb))) Bb)))) (Cp (Ba (pv 12) Bb)) (Ci _)) (Sb (Ry (Sn (Bo (Xo T) (hr.mono (by decide)) rfl T.m_qj T.F_qj.kp (AbT T) .nil Bs (Ba (pv 6) (Ba (Cp (Ba (pv 12) Bb)) (Ba (Cq (Ba Bu (Ba Bf Bb))) Bb)))))))))
    (Bh (Cc Qd))
    Cw))))
    Cw)
   (Bh (Cc (Le (Gc (AaX K hu64) (pv 9) (pv 5) (Ci _)) (Ni (Bo (Xo T) (hr.mono (by decide)) rfl T.m_qj T.F_qj.kp (AbT T) .nil Bs (Ba (pv 6) (Ba (Cp Bb) (Ba (Cq (Ba Bu (Ba Bf Bb))) Bb))))))))))))))))))),?_⟩
 try dsimp only [Cg,Bw]
 refine Gi h (by decide) (Bv (Ct (AeB (Bz Bc Bl)))
   (Bv (Ct (EF.eu (Na (Bz Bc Bl))))
   (Bv (Ct (EF.eu (Na (Bz Bc Bl))))
   (Bv (Ct (EF.eu (Na (Bz Bc Bl))))
   (Bv (Ct (EF.eu (Na (Bz (EF.eb (Gr Bc (Fo (EU.eb Bq)) (Fo (EU.eb Bq)))) (Bz Bc Bl)))))
   (Bv (Ct (Aj9 (Bz (EF.eb (Jh (Bz (EU.eb (Dq Bc (EU.eb Bq))) Bl))) (Bz (EF.eb (Jh (Bz (EU.eb (Dq Bc (EU.eb Bq))) Bl))) (Bz (EF.eb (Jh (Bz (EU.eb (Dq Bc (EU.eb Bq))) Bl))) Bl)))))
   (Bv (Ct (EF.eu (Na (Bx Cz (Bz Bc (Bz Bc (Bz Bc Bl)))))))
   (Bv (Ct (Fg (fun _ _ _=>.int _) (EU.eb Bq) (EU.eb (Js (fun _ _ _=>.int _) (EU.eb (Acq (Bz Bc (Bz (EU.eb Bq) Bl)))) (EU.eb (Js (fun _ _ _=>.int _) (EU.eb Bq) (EU.eb Bq)))))))
   (Bv (Ct (EF.eu (Jh (Bz Bc Bl))))
   (Bv (Ow (EF.eu (Gb (EF.eb (AiL (Bz (EU.eb (Ahg (fun _ _=>.int _) (EU.eb Bq))) (Bz (EU.eb (Fg (fun _ _ _=>.int _) (EU.eb (Og (Bz Bc Bl))) (EU.eb Bq))) Bl)))) (EF.eb (Dw 2 (Bx (Fg (fun _ _ _=>.int _) (EU.eb Bq) Bc) (Bx (Fg (fun _ _ _=>.int _) (EU.eb (Og (Bz Bc Bl))) Bc) Bl)))))) (Dg (top:=13))
    (Ow (EF.eu (Dw 3 (Bx Da (Bx Da (Bx Da Bl))))) (Dg (top:=13))
    (Ff (Ds (EU.eb (Ac6 (Fk 2 (Bx Cz (Bx Cz Bl))) Bc)))
    (Ff (Yj (Vk (EU.eb (Ss (Bz Bc (Bz Bc (Bx (Fk 2 (Bx Cz (Bx Cz Bl))) Bl)))))))
    (Oh Te)
    Dn)
    (Ff (Ds (EU.eb (Rx (EF.eb (Tz (Bz Bc (Bz Bc (Bx (Fk 2 (Bx Cz (Bx Cz Bl))) Bl))))) (EF.eb (Na (Bz Bc (Bx (Fk 2 (Bx Cz (Bx Cz Bl))) (Bz Bc (Bz Bc Bl)))))))))
    (Oh Te)
    Dn))))
   (Bv (Ff (Ds (EU.eb (Fg (fun _ _ _=>.bl _) (EU.eb (Yq (Bz Bc Bl))) (EU.eb Bq))))
    (Bv (Ct (Fs (EF.eb (Um (Bz Bc Bl))) (EU.eb (Js (fun _ _ _=>.int _) (EU.eb (Acq (Bz Bc (Bz (EU.eb Bq) Bl)))) (EU.eb (Yq (Bz Bc Bl)))))))
   (Bv (Ff (Tj (Ds (EU.eb (Rx (EF.eb (Tz (Bz Bc (Bz (EF.eb (Dw 1 (Bx Cz Bl))) (Bx (Fk 2 (Bx Da (Bx Bq Bl))) Bl))))) (EF.eb (Jh (Bz (EU.eb (Tb Bc Bc)) Bl)))))) (Yj (Vk (EU.eb (Ss (Bz Bc (Bz (EF.eb (Dw 1 (Bx Cz Bl))) (Bx (Fk 2 (Bx Da (Bx Bq Bl))) Bl))))))))
    (Oh Te)
    Dn)
   (Ff (Tj (Ds (EU.eb (Rx (EF.eb (Tz (Bz Bc (Bz (EF.eb (Jh (Bz (EU.eb (Tb Bc Bc)) Bl))) (Bx (Fk 2 (Bx Da (Bx Bq Bl))) Bl))))) (EF.eb (Dw 1 (Bx Cz Bl)))))) (Yj (Vk (EU.eb (Ss (Bz Bc (Bz (EF.eb (Dw 1 (Bx Cz Bl))) (Bx (Fk 2 (Bx Da (Bx Bq Bl))) Bl))))))))
    (Oh Te)
    Dn)))
    Dn)
   (Oh (Aa2 (EU.eb (Rx Bc Bc)) (Ss (Bz Bc (Bz (EF.eb (Dw 0 Bl)) (Bx (Fk 2 (Bx Da (Bx Bq Bl))) Bl))))))))))))))))) (fun ps P hp=>?_)
 clear h hu hu64 hr
 obtain ⟨ns,rfl,hlen,q⟩:=hp
 simp only [Dv,List.zipWith_cons_cons,List.zipWith_nil_left,List.zipWith_nil_right,List.length_cons,List.length_nil,Nat.zero_add,Nat.reduceAdd,Nat.reduceSub,List.replicate_succ,List.replicate_zero,Bool.false_eq_true,if_false,if_true,List.cons_append,List.nil_append,Gk]
 walk_at "pr"
 refine ⟨ns,rfl,fun U M J bk=>?_⟩
 have nd:=(List.nodup_append.mp bk.nd).1
 have Ul:U.length <= 60:=by have:=bk.ln; omega
 have Jl:=bk.jl
 walk_at "pr"
 refine ⟨U,_,_,rfl,nd,by omega,?_⟩
 walk_at "pr"
 refine ⟨_,_,J,rfl,bk.jo.nw,by omega,?_⟩
 walk_at "pr"
 refine ⟨U,M,J,rfl,bk,fun kvs hj=>?_⟩
 walk_at "pr"
 refine ⟨U,M,J,Fy ns (some 9) (some 33),rfl,bk,Nat.le_trans (Nu _ _ _) hlen,fun ts l0=>?_⟩
 have l1:ts.length <= 63:=by rw [l0]; exact Nat.le_trans (Nu _ _ _) hlen
 walk_at "pr"
 refine ⟨U,M,J,rfl,bk.so,bk.mo,bk.nd,bk.jo,by have:=bk.ln; omega,?_⟩
 walk_at "pr"
 refine ⟨U,M,J,ts,kvs,rfl,bk,by omega,hj,fun ss hss=>?_⟩
 walk_at "pr"
 refine ⟨ns,8,rfl,by decide,fun cx=>?_⟩
 walk_at "pr"
 all_goals try (first | decide | exact ⟨by decide,by decide,by decide⟩ | (rw [List.length_map]; omega) | (rw [AdU,List.length_map]; show _ + 2 <= _; omega))
 generalize 1 + cx % 10 ^ Int.toNat 30 = far
 refine ⟨fun _ ρ=>∃ v10 v11,ρ = [.bo (.scr ns),.sh (.tup [.lst (U.map sgP),.lst (M.map prP),.lst (J.map jnP)]),.sh (.dk (rkD U)),.sh (.dk (ptD J)),.sh (.dt kvs),.sh (.lst (ts.map .int)),.sh (.bk U M J),.sh (.lst (ss.map swP)),.sh (.int far),.sh (.lst (ts.map .int)),v10,v11,.un],⟨_,_,rfl⟩,?_,?_⟩
 ·rintro k p ρ hp ⟨v10,v11,rfl⟩
  obtain ⟨n,rfl⟩:∃ n,p = .int n:=by
   rcases List.mem_append.mp (List.mem_of_getElem? hp) with h | h
   ·exact AdR h
   ·simp only [List.mem_cons,List.not_mem_nil,or_false] at h
    rcases h with rfl | rfl
    ·exact ⟨_,rfl⟩
    ·exact ⟨_,rfl⟩
  walk_at "pr"
  refine ⟨fun _ ρ=>∃ v11,ρ = [.bo (.scr ns),.sh (.tup [.lst (U.map sgP),.lst (M.map prP),.lst (J.map jnP)]),.sh (.dk (rkD U)),.sh (.dk (ptD J)),.sh (.dt kvs),.sh (.lst (ts.map .int)),.sh (.bk U M J),.sh (.lst (ss.map swP)),.sh (.int far),.sh (.lst (ts.map .int)),.sh (.int n),v11,.un],⟨_,rfl⟩,?_,?_⟩
  ·rintro j p ρ hp ⟨v11,rfl⟩
   obtain ⟨w,hw,rfl⟩:∃ w ∈ wds,p = .str w:=by
    have:=List.mem_of_getElem? hp
    rw [show ([PV.str "turn",PV.str "open",PV.str "join"]:List PV) = wds.map .str from rfl] at this
    obtain ⟨w,hw,e⟩:=List.mem_map.mp this
    exact ⟨w,hw,e.symm⟩
   walk_at "pr"
   refine AiC (s:=(w,n)) (fun h=>?_) (fun h=>?_)
   ·have hn:¬ Brs U J ts (w,n):=fun z=>h ((hss _).mpr z)
    walk_at "pr"
    refine ⟨U,M,J,ts,w,n,rfl,bk,by omega,hw,fun z=>absurd z hn,fun _=>?_⟩
    walk_at "pr"
    exact ⟨_,rfl⟩
   ·have hn:Brs U J ts (w,n):=(hss _).mp h
    walk_at "pr"
    refine ⟨U,M,J,ts,w,n,rfl,bk,by omega,hw,fun us hs=>?_,fun z=>absurd hn z⟩
    walk_at "pr"
    refine ⟨U,M,J,ts,us,(w,n),kvs,rfl,bk,by omega,hj,hs,?_⟩
    walk_at "pr"
    refine Yd Nj ?_
    walk_at "pr"
    exact ⟨_,rfl⟩
  ·rintro ρ ⟨v11,rfl⟩
   exact ⟨_,_,rfl⟩
 rintro ρ ⟨v10,v11,rfl⟩
 have pl:(ptD J).length = J.length:=by unfold ptD; rw [List.length_map]
 have nb1:∀ {ts:List Int} {w:Str},ts.length < 1->¬ Brs U J ts (w,0):=fun h z=>by
  obtain ⟨a,e,z⟩:=brs_iff.mp z
  rcases z with ⟨_,s,p,g,_⟩ | ⟨_,x,y,s,g,_⟩ | ⟨_,x,y,g,_⟩ <;> (have:=(List.getElem?_eq_some_iff.mp g).1; omega)
 have nb2:∀ {ts:List Int} {w:Str},ts.length < 2->¬ w = "open"->¬ Brs U J ts (w,0):=fun h hw z=>by
  obtain ⟨a,e,z⟩:=brs_iff.mp z
  rcases z with ⟨z,_⟩ | ⟨_,x,y,s,_,g,_⟩ | ⟨_,x,y,_,g,_⟩
  ·exact hw z
  ·have:=(List.getElem?_eq_some_iff.mp g).1; omega
  ·have:=(List.getElem?_eq_some_iff.mp g).1; omega
 walk_at "pr"
 by_cases hJ:0 < J.length
 ·rw [decide_eq_true (by rw [pl]; omega)]
  walk_at "pr"
  refine Wn (J.map (·.1)) (by unfold ptD; rw [List.map_map,List.map_map]; rfl) (by rw [pl]; omega) (fun ks hk _=>?_)
  have kl:ks.length = J.length:=by rw [hk.length_eq,List.length_map]
  walk_at "pr"
  refine ⟨ns,7,rfl,by decide,fun c7=>?_⟩
  walk_at "pr"
  all_goals try (rw [pl]; omega)
  rw [pl]
  have g1:=Int.emod_nonneg c7 (show (J.length:Int) ≠ 0 by omega)
  have g2:=Int.emod_lt_of_pos c7 (show (0:Int) < (J.length:Int) by omega)
  have hj2:(c7 % (J.length:Int)).toNat < ks.length:=by omega
  obtain ⟨w0,hw0⟩:∃ w0,ks[(c7 % (J.length:Int)).toNat]? = some w0:=⟨_,List.getElem?_eq_getElem hj2⟩
  refine Ql (l:=ks) (f:=PV.int) (j:=(c7 % (J.length:Int)).toNat) (a:=w0) hw0 (by omega) ?_
  obtain ⟨x,y,e⟩:=Zg bk (hk.mem_iff.mp (List.mem_of_getElem? hw0))
  have ev:Cu (ptD J) (.inl w0) = some (.tup [.int x,.int y]):=by rw [Sr,e]; rfl
  have bo:Brs U J [w0] ("open",0):=Adl (k:=0) (s:=w0) rfl e
  have bj:Brs U J [x,y] ("join",0):=AcR (k:=0) rfl rfl e
  walk_at "pr"
  refine ⟨U,M,J,[w0],_,0,rfl,bk,by simp,AbQ,fun us hs=>?_,fun z=>absurd bo z⟩
  have eu:=Aha hs e
  subst eu
  walk_at "pr"
  refine Uo ev ?_
  walk_at "pr"
  refine Yd (xs:=[PV.int x,PV.int y]) (Nj (xs:=[x,y]) (ys:=[x,y])) ?_
  walk_at "pr"
  refine ⟨U,M,J,[w0],_,0,rfl,bk,by simp,Afp,fun z=>absurd z (nb2 (by simp) (by decide +kernel)),fun _=>?_⟩
  walk_at "pr"
  refine Uo ev ?_
  walk_at "pr"
  refine ⟨U,M,J,[x,y],_,0,rfl,bk,by simp,Afp,fun us hs=>?_,fun z=>absurd bj z⟩
  have eu:=Ags bk hs e
  subst eu
  walk_at "pr"
  refine Yd (xs:=[PV.int w0]) (Nj (xs:=[w0]) (ys:=[w0])) ?_
  walk_at "pr"
  refine ⟨U,M,J,[w0],_,0,rfl,bk,by simp,AjW,fun z=>absurd z (nb2 (by simp) (by decide +kernel)),fun _=>?_⟩
  walk_at "pr"
  refine Yp Nj ?_
  walk_at "pr"
  exact ⟨U,M,J,[],_,0,rfl,bk,by simp,AbQ,fun z=>absurd z (nb1 (by simp)),fun _=>q⟩
 ·rw [decide_eq_false (by rw [pl]; omega)]
  walk_at "pr"
  refine Yp Nj ?_
  walk_at "pr"
  exact ⟨U,M,J,[],_,0,rfl,bk,by simp,AbQ,fun z=>absurd z (nb1 (by simp)),fun _=>q⟩
end
def _root_.PySem.W.Fast.tw10374908572088357193:Nat:=0
def _root_.PySem.W.Fast.tw11116384052201136950:Nat:=0
def _root_.PySem.W.Fast.tw11460664898207761252:Nat:=0
def _root_.PySem.W.Fast.tw12337240039906010161:Nat:=0
def _root_.PySem.W.Fast.tw12382336264756500791:Nat:=0
def _root_.PySem.W.Fast.tw13336078386481222068:Nat:=0
def _root_.PySem.W.Fast.tw13912356409094014645:Nat:=0
def _root_.PySem.W.Fast.tw14297698678110970743:Nat:=0
def _root_.PySem.W.Fast.tw14698389517012870074:Nat:=0
def _root_.PySem.W.Fast.tw14768464187511957329:Nat:=0
def _root_.PySem.W.Fast.tw15516510896483123944:Nat:=0
def _root_.PySem.W.Fast.tw16851831848064676378:Nat:=0
def _root_.PySem.W.Fast.tw17219997821173961537:Nat:=0
def _root_.PySem.W.Fast.tw17759230208614686722:Nat:=0
def _root_.PySem.W.Fast.tw17821783990134330309:Nat:=0
def _root_.PySem.W.Fast.tw1821433575160372632:Nat:=0
def _root_.PySem.W.Fast.tw2891478616458089784:Nat:=0
def _root_.PySem.W.Fast.tw306855014008383810:Nat:=0
def _root_.PySem.W.Fast.tw3193099497509146724:Nat:=0
def _root_.PySem.W.Fast.tw3635269420581168729:Nat:=0
def _root_.PySem.W.Fast.tw3640602881820589521:Nat:=0
def _root_.PySem.W.Fast.tw394478482792430777:Nat:=0
def _root_.PySem.W.Fast.tw4007757174631963448:Nat:=0
def _root_.PySem.W.Fast.tw5359207536501248534:Nat:=0
def _root_.PySem.W.Fast.tw5628717832222165127:Nat:=0
def _root_.PySem.W.Fast.tw5939756995000618631:Nat:=0
def _root_.PySem.W.Fast.tw6391313411780326972:Nat:=0
def _root_.PySem.W.Fast.tw7435422873661637858:Nat:=0
def _root_.PySem.W.Fast.tw7803967572847037127:Nat:=0
def _root_.PySem.W.Fast.tw8192239719166435173:Nat:=0
def _root_.PySem.W.Fast.tw8442227028019431462:Nat:=0
def _root_.PySem.W.Fast.tw8875774222764603289:Nat:=0
def _root_.PySem.W.Fast.tw9638044225619839640:Nat:=0
theorem all_mk {l:PySem.W.OpenLaw} {w:World} {K:PySem.W.Frag} {h:Heap} {mg:Str->Option Value} {fa:Addr} (X:K.In h) (G:h.Ns mainGlobals mg) (hfa:mg "law" = some (.ref fa)) {f_qi f_qbg f_qbd f_qz f_qbb f_qbc f_qbf f_qbe f_qr f_qbj f_qc f_qd f_qa f_qbk f_qbi f_qf f_qo f_qq f_qt f_qy f_qp f_qn f_qe f_qs f_ql f_qu f_qba f_qv f_qx f_qbm f_qm f_qbl f_qh f_qb f_qg f_qbh f_qj f_qk f_qbo C_Book C_HandsError C_NoBook C_NoPlace C_NoStep C_NoWhat C_NoWidth a_JOINED_KINDS a_TOLD_KINDS:Addr} {od_JOINED_KINDS:Option Addr} {its_JOINED_KINDS:Array Value} {n_JOINED_KINDS:Nat} {sl_JOINED_KINDS:Array (Option Value)} {u_MOST_GOINGS:Value} {od_TOLD_KINDS:Option Addr} {its_TOLD_KINDS:Array Value} {n_TOLD_KINDS:Nat} {sl_TOLD_KINDS:Array (Option Value)} {od_qi an_qi od_qbg an_qbg od_qbd an_qbd od_qz an_qz od_qbb an_qbb od_qbc an_qbc od_qbf an_qbf od_qbe an_qbe od_qr an_qr od_qbj an_qbj od_qc an_qc od_qd an_qd od_qa an_qa od_qbk an_qbk od_qbi an_qbi od_qf an_qf od_qo an_qo od_qq an_qq od_qt an_qt od_qy an_qy od_qp an_qp od_qn an_qn od_qe an_qe od_qs an_qs od_ql an_ql od_qu an_qu od_qba an_qba od_qv an_qv od_qx an_qx od_qbm an_qbm od_qm an_qm od_qbl an_qbl od_qh an_qh od_qb an_qb od_qg an_qg od_qbh an_qbh od_qj an_qj od_qk an_qk od_qbo an_qbo:Option Addr} {sl_qi sl_qbg sl_qbd sl_qz sl_qbb sl_qbc sl_qbf sl_qbe sl_qr sl_qbj sl_qc sl_qd sl_qa sl_qbk sl_qbi sl_qf sl_qo sl_qq sl_qt sl_qy sl_qp sl_qn sl_qe sl_qs sl_ql sl_qu sl_qba sl_qv sl_qx sl_qbm sl_qm sl_qbl sl_qh sl_qb sl_qg sl_qbh sl_qj sl_qk sl_qbo:Array (Option Value)} {oc_qi kV_qi dc_qi pm_qi cd_qi ct_qi oc_qbg kV_qbg dc_qbg pm_qbg cd_qbg ct_qbg oc_qbd kV_qbd dc_qbd pm_qbd cd_qbd ct_qbd oc_qz kV_qz dc_qz pm_qz cd_qz ct_qz oc_qbb kV_qbb dc_qbb pm_qbb cd_qbb ct_qbb oc_qbc kV_qbc dc_qbc pm_qbc cd_qbc ct_qbc oc_qbf kV_qbf dc_qbf pm_qbf cd_qbf ct_qbf oc_qbe kV_qbe dc_qbe pm_qbe cd_qbe ct_qbe oc_qr kV_qr dc_qr pm_qr cd_qr ct_qr oc_qbj kV_qbj dc_qbj pm_qbj cd_qbj ct_qbj oc_qc kV_qc dc_qc pm_qc cd_qc ct_qc oc_qd kV_qd dc_qd pm_qd cd_qd ct_qd oc_qa kV_qa dc_qa pm_qa cd_qa ct_qa oc_qbk kV_qbk dc_qbk pm_qbk cd_qbk ct_qbk oc_qbi kV_qbi dc_qbi pm_qbi cd_qbi ct_qbi oc_qf kV_qf dc_qf pm_qf cd_qf ct_qf oc_qo kV_qo dc_qo pm_qo cd_qo ct_qo oc_qq kV_qq dc_qq pm_qq cd_qq ct_qq oc_qt kV_qt dc_qt pm_qt cd_qt ct_qt oc_qy kV_qy dc_qy pm_qy cd_qy ct_qy oc_qp kV_qp dc_qp pm_qp cd_qp ct_qp oc_qn kV_qn dc_qn pm_qn cd_qn ct_qn oc_qe kV_qe dc_qe pm_qe cd_qe ct_qe oc_qs kV_qs dc_qs pm_qs cd_qs ct_qs oc_ql kV_ql dc_ql pm_ql cd_ql ct_ql oc_qu kV_qu dc_qu pm_qu cd_qu ct_qu oc_qba kV_qba dc_qba pm_qba cd_qba ct_qba oc_qv kV_qv dc_qv pm_qv cd_qv ct_qv oc_qx kV_qx dc_qx pm_qx cd_qx ct_qx oc_qbm kV_qbm dc_qbm pm_qbm cd_qbm ct_qbm oc_qm kV_qm dc_qm pm_qm cd_qm ct_qm oc_qbl kV_qbl dc_qbl pm_qbl cd_qbl ct_qbl oc_qh kV_qh dc_qh pm_qh cd_qh ct_qh oc_qb kV_qb dc_qb pm_qb cd_qb ct_qb oc_qg kV_qg dc_qg pm_qg cd_qg ct_qg oc_qbh kV_qbh dc_qbh pm_qbh cd_qbh ct_qbh oc_qj kV_qj dc_qj pm_qj cd_qj ct_qj oc_qk kV_qk dc_qk pm_qk cd_qk ct_qk oc_qbo kV_qbo dc_qbo pm_qbo cd_qbo ct_qbo:Value}
  (aC_Book:PySem.W.nsIn K mainGlobals "Book" = some (some (.ref C_Book)))
  (h_qi_a:PySem.W.nsIn K mainGlobals "_law_cell_at" = some (some (.ref f_qi)))
  (h_qi_l:K.lookup f_qi = some ⟨oc_qi,od_qi,.func (PySem.W.fnOf "_law_cell_at" "_law_cell_at" (Bj Qf) (Bi Qf) (Bd Qf) .none kV_qi dc_qi pm_qi an_qi cd_qi ct_qi),sl_qi⟩)
  (h_qi_c:PySem.W.codeIn K cd_qi "_law_cell_at" = true)
  (h_qi_k:PySem.W.keepIn K (.ref f_qi) = true)
  (h_qbg_a:PySem.W.nsIn K mainGlobals "_law_signs" = some (some (.ref f_qbg)))
  (h_qbg_l:K.lookup f_qbg = some ⟨oc_qbg,od_qbg,.func (PySem.W.fnOf "_law_signs" "_law_signs" (Bj Lv) (Bi Lv) (Bd Lv) .none kV_qbg dc_qbg pm_qbg an_qbg cd_qbg ct_qbg),sl_qbg⟩)
  (h_qbg_c:PySem.W.codeIn K cd_qbg "_law_signs" = true)
  (h_qbg_k:PySem.W.keepIn K (.ref f_qbg) = true)
  (h_qbd_a:PySem.W.nsIn K mainGlobals "_law_marks" = some (some (.ref f_qbd)))
  (h_qbd_l:K.lookup f_qbd = some ⟨oc_qbd,od_qbd,.func (PySem.W.fnOf "_law_marks" "_law_marks" (Bj Lx) (Bi Lx) (Bd Lx) .none kV_qbd dc_qbd pm_qbd an_qbd cd_qbd ct_qbd),sl_qbd⟩)
  (h_qbd_c:PySem.W.codeIn K cd_qbd "_law_marks" = true)
  (h_qbd_k:PySem.W.keepIn K (.ref f_qbd) = true)
  (h_qz_a:PySem.W.nsIn K mainGlobals "_law_bases" = some (some (.ref f_qz)))
  (h_qz_l:K.lookup f_qz = some ⟨oc_qz,od_qz,.func (PySem.W.fnOf "_law_bases" "_law_bases" (Bj Qe) (Bi Qe) (Bd Qe) .none kV_qz dc_qz pm_qz an_qz cd_qz ct_qz),sl_qz⟩)
  (h_qz_c:PySem.W.codeIn K cd_qz "_law_bases" = true)
  (h_qz_k:PySem.W.keepIn K (.ref f_qz) = true)
  (h_qbb_a:PySem.W.nsIn K mainGlobals "_law_joins" = some (some (.ref f_qbb)))
  (h_qbb_l:K.lookup f_qbb = some ⟨oc_qbb,od_qbb,.func (PySem.W.fnOf "_law_joins" "_law_joins" (Bj Ll) (Bi Ll) (Bd Ll) .none kV_qbb dc_qbb pm_qbb an_qbb cd_qbb ct_qbb),sl_qbb⟩)
  (h_qbb_c:PySem.W.codeIn K cd_qbb "_law_joins" = true)
  (h_qbb_k:PySem.W.keepIn K (.ref f_qbb) = true)
  (h_qbc_a:PySem.W.nsIn K mainGlobals "_law_lists" = some (some (.ref f_qbc)))
  (h_qbc_l:K.lookup f_qbc = some ⟨oc_qbc,od_qbc,.func (PySem.W.fnOf "_law_lists" "_law_lists" (Bj Ly) (Bi Ly) (Bd Ly) .none kV_qbc dc_qbc pm_qbc an_qbc cd_qbc ct_qbc),sl_qbc⟩)
  (h_qbc_c:PySem.W.codeIn K cd_qbc "_law_lists" = true)
  (h_qbc_k:PySem.W.keepIn K (.ref f_qbc) = true)
  (h_qbf_a:PySem.W.nsIn K mainGlobals "_law_ranks" = some (some (.ref f_qbf)))
  (h_qbf_l:K.lookup f_qbf = some ⟨oc_qbf,od_qbf,.func (PySem.W.fnOf "_law_ranks" "_law_ranks" (Bj Ln) (Bi Ln) (Bd Ln) .none kV_qbf dc_qbf pm_qbf an_qbf cd_qbf ct_qbf),sl_qbf⟩)
  (h_qbf_c:PySem.W.codeIn K cd_qbf "_law_ranks" = true)
  (h_qbf_k:PySem.W.keepIn K (.ref f_qbf) = true)
  (h_qbe_a:PySem.W.nsIn K mainGlobals "_law_parts" = some (some (.ref f_qbe)))
  (h_qbe_l:K.lookup f_qbe = some ⟨oc_qbe,od_qbe,.func (PySem.W.fnOf "_law_parts" "_law_parts" (Bj Lu) (Bi Lu) (Bd Lu) .none kV_qbe dc_qbe pm_qbe an_qbe cd_qbe ct_qbe),sl_qbe⟩)
  (h_qbe_c:PySem.W.codeIn K cd_qbe "_law_parts" = true)
  (h_qbe_k:PySem.W.keepIn K (.ref f_qbe) = true)
  (h_qr_a:PySem.W.nsIn K mainGlobals "_law_joined" = some (some (.ref f_qr)))
  (h_qr_l:K.lookup f_qr = some ⟨oc_qr,od_qr,.func (PySem.W.fnOf "_law_joined" "_law_joined" (Bj Rc) (Bi Rc) (Bd Rc) .none kV_qr dc_qr pm_qr an_qr cd_qr ct_qr),sl_qr⟩)
  (h_qr_c:PySem.W.codeIn K cd_qr "_law_joined" = true)
  (h_qr_k:PySem.W.keepIn K (.ref f_qr) = true)
  (h_qbj_a:PySem.W.nsIn K mainGlobals "_law_text" = some (some (.ref f_qbj)))
  (h_qbj_l:K.lookup f_qbj = some ⟨oc_qbj,od_qbj,.func (PySem.W.fnOf "_law_text" "_law_text" (Bj Lj) (Bi Lj) (Bd Lj) .none kV_qbj dc_qbj pm_qbj an_qbj cd_qbj ct_qbj),sl_qbj⟩)
  (h_qbj_c:PySem.W.codeIn K cd_qbj "_law_text" = true)
  (h_qbj_k:PySem.W.keepIn K (.ref f_qbj) = true)
  (h_qc_a:PySem.W.nsIn K mainGlobals "refuse_unless" = some (some (.ref f_qc)))
  (h_qc_l:K.lookup f_qc = some ⟨oc_qc,od_qc,.func (PySem.W.fnOf "refuse_unless" "refuse_unless" (Bj Oz) (Bi Oz) (Bd Oz) .none kV_qc dc_qc pm_qc an_qc cd_qc ct_qc),sl_qc⟩)
  (h_qc_c:PySem.W.codeIn K cd_qc "refuse_unless" = true)
  (h_qc_k:PySem.W.keepIn K (.ref f_qc) = true)
  (h_qd_a:PySem.W.nsIn K mainGlobals "check_tuples" = some (some (.ref f_qd)))
  (h_qd_l:K.lookup f_qd = some ⟨oc_qd,od_qd,.func (PySem.W.fnOf "check_tuples" "check_tuples" (Bj Rn) (Bi Rn) (Bd Rn) .none kV_qd dc_qd pm_qd an_qd cd_qd ct_qd),sl_qd⟩)
  (h_qd_c:PySem.W.codeIn K cd_qd "check_tuples" = true)
  (h_qd_k:PySem.W.keepIn K (.ref f_qd) = true)
  (h_qa_a:PySem.W.nsIn K mainGlobals "is_whole_number" = some (some (.ref f_qa)))
  (h_qa_l:K.lookup f_qa = some ⟨oc_qa,od_qa,.func (PySem.W.fnOf "is_whole_number" "is_whole_number" (Bj Oy) (Bi Oy) (Bd Oy) .none kV_qa dc_qa pm_qa an_qa cd_qa ct_qa),sl_qa⟩)
  (h_qa_c:PySem.W.codeIn K cd_qa "is_whole_number" = true)
  (h_qa_k:PySem.W.keepIn K (.ref f_qa) = true)
  (h_qbk_a:PySem.W.nsIn K mainGlobals "is_sign" = some (some (.ref f_qbk)))
  (h_qbk_l:K.lookup f_qbk = some ⟨oc_qbk,od_qbk,.func (PySem.W.fnOf "is_sign" "is_sign" (Bj Lm) (Bi Lm) (Bd Lm) .none kV_qbk dc_qbk pm_qbk an_qbk cd_qbk ct_qbk),sl_qbk⟩)
  (h_qbk_c:PySem.W.codeIn K cd_qbk "is_sign" = true)
  (h_qbk_k:PySem.W.keepIn K (.ref f_qbk) = true)
  (h_qbi_a:PySem.W.nsIn K mainGlobals "add_kind" = some (some (.ref f_qbi)))
  (h_qbi_l:K.lookup f_qbi = some ⟨oc_qbi,od_qbi,.func (PySem.W.fnOf "add_kind" "add_kind" (Bj Lk) (Bi Lk) (Bd Lk) .none kV_qbi dc_qbi pm_qbi an_qbi cd_qbi ct_qbi),sl_qbi⟩)
  (h_qbi_c:PySem.W.codeIn K cd_qbi "add_kind" = true)
  (h_qbi_k:PySem.W.keepIn K (.ref f_qbi) = true)
  (h_qf_a:PySem.W.nsIn K mainGlobals "is_told_kind" = some (some (.ref f_qf)))
  (h_qf_l:K.lookup f_qf = some ⟨oc_qf,od_qf,.func (PySem.W.fnOf "is_told_kind" "is_told_kind" (Bj Rk) (Bi Rk) (Bd Rk) .none kV_qf dc_qf pm_qf an_qf cd_qf ct_qf),sl_qf⟩)
  (h_qf_c:PySem.W.codeIn K cd_qf "is_told_kind" = true)
  (h_qf_k:PySem.W.keepIn K (.ref f_qf) = true)
  (h_qo_a:PySem.W.nsIn K mainGlobals "is_rank_of" = some (some (.ref f_qo)))
  (h_qo_l:K.lookup f_qo = some ⟨oc_qo,od_qo,.func (PySem.W.fnOf "is_rank_of" "is_rank_of" (Bj Qq) (Bi Qq) (Bd Qq) .none kV_qo dc_qo pm_qo an_qo cd_qo ct_qo),sl_qo⟩)
  (h_qo_c:PySem.W.codeIn K cd_qo "is_rank_of" = true)
  (h_qo_k:PySem.W.keepIn K (.ref f_qo) = true)
  (h_qq_a:PySem.W.nsIn K mainGlobals "kinds_told" = some (some (.ref f_qq)))
  (h_qq_l:K.lookup f_qq = some ⟨oc_qq,od_qq,.func (PySem.W.fnOf "kinds_told" "kinds_told" (Bj Ox) (Bi Ox) (Bd Ox) .none kV_qq dc_qq pm_qq an_qq cd_qq ct_qq),sl_qq⟩)
  (h_qq_c:PySem.W.codeIn K cd_qq "kinds_told" = true)
  (h_qq_k:PySem.W.keepIn K (.ref f_qq) = true)
  (h_qt_a:PySem.W.nsIn K mainGlobals "ranks_told" = some (some (.ref f_qt)))
  (h_qt_l:K.lookup f_qt = some ⟨oc_qt,od_qt,.func (PySem.W.fnOf "ranks_told" "ranks_told" (Bj Qp) (Bi Qp) (Bd Qp) .none kV_qt dc_qt pm_qt an_qt cd_qt ct_qt),sl_qt⟩)
  (h_qt_c:PySem.W.codeIn K cd_qt "ranks_told" = true)
  (h_qt_k:PySem.W.keepIn K (.ref f_qt) = true)
  (h_qy_a:PySem.W.nsIn K mainGlobals "both_ways" = some (some (.ref f_qy)))
  (h_qy_l:K.lookup f_qy = some ⟨oc_qy,od_qy,.func (PySem.W.fnOf "both_ways" "both_ways" (Bj Qy) (Bi Qy) (Bd Qy) .none kV_qy dc_qy pm_qy an_qy cd_qy ct_qy),sl_qy⟩)
  (h_qy_c:PySem.W.codeIn K cd_qy "both_ways" = true)
  (h_qy_k:PySem.W.keepIn K (.ref f_qy) = true)
  (h_qp_a:PySem.W.nsIn K mainGlobals "kind_among" = some (some (.ref f_qp)))
  (h_qp_l:K.lookup f_qp = some ⟨oc_qp,od_qp,.func (PySem.W.fnOf "kind_among" "kind_among" (Bj Qg) (Bi Qg) (Bd Qg) .none kV_qp dc_qp pm_qp an_qp cd_qp ct_qp),sl_qp⟩)
  (h_qp_c:PySem.W.codeIn K cd_qp "kind_among" = true)
  (h_qp_k:PySem.W.keepIn K (.ref f_qp) = true)
  (h_qn_a:PySem.W.nsIn K mainGlobals "check_join" = some (some (.ref f_qn)))
  (h_qn_l:K.lookup f_qn = some ⟨oc_qn,od_qn,.func (PySem.W.fnOf "check_join" "check_join" (Bj Qn) (Bi Qn) (Bd Qn) .none kV_qn dc_qn pm_qn an_qn cd_qn ct_qn),sl_qn⟩)
  (h_qn_c:PySem.W.codeIn K cd_qn "check_join" = true)
  (h_qn_k:PySem.W.keepIn K (.ref f_qn) = true)
  (h_qe_a:PySem.W.nsIn K mainGlobals "ends_in_time" = some (some (.ref f_qe)))
  (h_qe_l:K.lookup f_qe = some ⟨oc_qe,od_qe,.func (PySem.W.fnOf "ends_in_time" "ends_in_time" (Bj Qw) (Bi Qw) (Bd Qw) .none kV_qe dc_qe pm_qe an_qe cd_qe ct_qe),sl_qe⟩)
  (h_qe_c:PySem.W.codeIn K cd_qe "ends_in_time" = true)
  (h_qe_k:PySem.W.keepIn K (.ref f_qe) = true)
  (h_qs_a:PySem.W.nsIn K mainGlobals "pairs_told" = some (some (.ref f_qs)))
  (h_qs_l:K.lookup f_qs = some ⟨oc_qs,od_qs,.func (PySem.W.fnOf "pairs_told" "pairs_told" (Bj Qs) (Bi Qs) (Bd Qs) .none kV_qs dc_qs pm_qs an_qs cd_qs ct_qs),sl_qs⟩)
  (h_qs_c:PySem.W.codeIn K cd_qs "pairs_told" = true)
  (h_qs_k:PySem.W.keepIn K (.ref f_qs) = true)
  (h_ql_a:PySem.W.nsIn K mainGlobals "wholes_told" = some (some (.ref f_ql)))
  (h_ql_l:K.lookup f_ql = some ⟨oc_ql,od_ql,.func (PySem.W.fnOf "wholes_told" "wholes_told" (Bj Rj) (Bi Rj) (Bd Rj) .none kV_ql dc_ql pm_ql an_ql cd_ql ct_ql),sl_ql⟩)
  (h_ql_c:PySem.W.codeIn K cd_ql "wholes_told" = true)
  (h_ql_k:PySem.W.keepIn K (.ref f_ql) = true)
  (h_qu_a:PySem.W.findIn K (.ref C_Book) "__init__" = some (some (.ref f_qu)))
  (h_qu_i:PySem.W.isFn K (.ref f_qu) = true)
  (h_qu_l:K.lookup f_qu = some ⟨oc_qu,od_qu,.func (PySem.W.fnOf "__init__" "Book.__init__" (Bj Re) (Bi Re) (Bd Re) .none kV_qu dc_qu pm_qu an_qu cd_qu ct_qu),sl_qu⟩)
  (h_qu_c:PySem.W.codeIn K cd_qu "Book.__init__" = true)
  (h_qu_k:PySem.W.keepIn K (.ref f_qu) = true)
  (h_qba_a:PySem.W.nsIn K mainGlobals "_law_bears" = some (some (.ref f_qba)))
  (h_qba_l:K.lookup f_qba = some ⟨oc_qba,od_qba,.func (PySem.W.fnOf "_law_bears" "_law_bears" (Bj Lw) (Bi Lw) (Bd Lw) .none kV_qba dc_qba pm_qba an_qba cd_qba ct_qba),sl_qba⟩)
  (h_qba_c:PySem.W.codeIn K cd_qba "_law_bears" = true)
  (h_qba_k:PySem.W.keepIn K (.ref f_qba) = true)
  (h_qv_a:PySem.W.findIn K (.ref C_Book) "kind" = some (some (.ref f_qv)))
  (h_qv_i:PySem.W.isFn K (.ref f_qv) = true)
  (h_qv_l:K.lookup f_qv = some ⟨oc_qv,od_qv,.func (PySem.W.fnOf "kind" "Book.kind" (Bj Qu) (Bi Qu) (Bd Qu) .none kV_qv dc_qv pm_qv an_qv cd_qv ct_qv),sl_qv⟩)
  (h_qv_c:PySem.W.codeIn K cd_qv "Book.kind" = true)
  (h_qv_k:PySem.W.keepIn K (.ref f_qv) = true)
  (h_qx_a:PySem.W.findIn K (.ref C_Book) "rank" = some (some (.ref f_qx)))
  (h_qx_i:PySem.W.isFn K (.ref f_qx) = true)
  (h_qx_l:K.lookup f_qx = some ⟨oc_qx,od_qx,.func (PySem.W.fnOf "rank" "Book.rank" (Bj Qx) (Bi Qx) (Bd Qx) .none kV_qx dc_qx pm_qx an_qx cd_qx ct_qx),sl_qx⟩)
  (h_qx_c:PySem.W.codeIn K cd_qx "Book.rank" = true)
  (h_qx_k:PySem.W.keepIn K (.ref f_qx) = true)
  (h_qbm_a:PySem.W.nsIn K mainGlobals "turned" = some (some (.ref f_qbm)))
  (h_qbm_l:K.lookup f_qbm = some ⟨oc_qbm,od_qbm,.func (PySem.W.fnOf "turned" "turned" (Bj Lz) (Bi Lz) (Bd Lz) .none kV_qbm dc_qbm pm_qbm an_qbm cd_qbm ct_qbm),sl_qbm⟩)
  (h_qbm_c:PySem.W.codeIn K cd_qbm "turned" = true)
  (h_qbm_k:PySem.W.keepIn K (.ref f_qbm) = true)
  (h_qm_a:PySem.W.findIn K (.ref C_Book) "parts" = some (some (.ref f_qm)))
  (h_qm_i:PySem.W.isFn K (.ref f_qm) = true)
  (h_qm_l:K.lookup f_qm = some ⟨oc_qm,od_qm,.func (PySem.W.fnOf "parts" "Book.parts" (Bj Qz) (Bi Qz) (Bd Qz) .none kV_qm dc_qm pm_qm an_qm cd_qm ct_qm),sl_qm⟩)
  (h_qm_c:PySem.W.codeIn K cd_qm "Book.parts" = true)
  (h_qm_k:PySem.W.keepIn K (.ref f_qm) = true)
  (h_qbl_a:PySem.W.nsIn K mainGlobals "opened" = some (some (.ref f_qbl)))
  (h_qbl_l:K.lookup f_qbl = some ⟨oc_qbl,od_qbl,.func (PySem.W.fnOf "opened" "opened" (Bj Ls) (Bi Ls) (Bd Ls) .none kV_qbl dc_qbl pm_qbl an_qbl cd_qbl ct_qbl),sl_qbl⟩)
  (h_qbl_c:PySem.W.codeIn K cd_qbl "opened" = true)
  (h_qbl_k:PySem.W.keepIn K (.ref f_qbl) = true)
  (h_qh_a:PySem.W.findIn K (.ref C_Book) "joined" = some (some (.ref f_qh)))
  (h_qh_i:PySem.W.isFn K (.ref f_qh) = true)
  (h_qh_l:K.lookup f_qh = some ⟨oc_qh,od_qh,.func (PySem.W.fnOf "joined" "Book.joined" (Bj Rl) (Bi Rl) (Bd Rl) .none kV_qh dc_qh pm_qh an_qh cd_qh ct_qh),sl_qh⟩)
  (h_qh_c:PySem.W.codeIn K cd_qh "Book.joined" = true)
  (h_qh_k:PySem.W.keepIn K (.ref f_qh) = true)
  (h_qb_a:PySem.W.nsIn K mainGlobals "joined_to_one" = some (some (.ref f_qb)))
  (h_qb_l:K.lookup f_qb = some ⟨oc_qb,od_qb,.func (PySem.W.fnOf "joined_to_one" "joined_to_one" (Bj Rh) (Bi Rh) (Bd Rh) .none kV_qb dc_qb pm_qb an_qb cd_qb ct_qb),sl_qb⟩)
  (h_qb_c:PySem.W.codeIn K cd_qb "joined_to_one" = true)
  (h_qb_k:PySem.W.keepIn K (.ref f_qb) = true)
  (h_qg_a:PySem.W.nsIn K mainGlobals "put_in_place" = some (some (.ref f_qg)))
  (h_qg_l:K.lookup f_qg = some ⟨oc_qg,od_qg,.func (PySem.W.fnOf "put_in_place" "put_in_place" (Bj Rb) (Bi Rb) (Bd Rb) .none kV_qg dc_qg pm_qg an_qg cd_qg ct_qg),sl_qg⟩)
  (h_qg_c:PySem.W.codeIn K cd_qg "put_in_place" = true)
  (h_qg_k:PySem.W.keepIn K (.ref f_qg) = true)
  (h_qbh_a:PySem.W.nsIn K mainGlobals "step_done" = some (some (.ref f_qbh)))
  (h_qbh_l:K.lookup f_qbh = some ⟨oc_qbh,od_qbh,.func (PySem.W.fnOf "step_done" "step_done" (Bj Lp) (Bi Lp) (Bd Lp) .none kV_qbh dc_qbh pm_qbh an_qbh cd_qbh ct_qbh),sl_qbh⟩)
  (h_qbh_c:PySem.W.codeIn K cd_qbh "step_done" = true)
  (h_qbh_k:PySem.W.keepIn K (.ref f_qbh) = true)
  (h_qj_a:PySem.W.nsIn K mainGlobals "_law_refused" = some (some (.ref f_qj)))
  (h_qj_l:K.lookup f_qj = some ⟨oc_qj,od_qj,.func (PySem.W.fnOf "_law_refused" "_law_refused" (Bj Qv) (Bi Qv) (Bd Qv) .none kV_qj dc_qj pm_qj an_qj cd_qj ct_qj),sl_qj⟩)
  (h_qj_c:PySem.W.codeIn K cd_qj "_law_refused" = true)
  (h_qj_k:PySem.W.keepIn K (.ref f_qj) = true)
  (h_qk_a:PySem.W.nsIn K mainGlobals "_law_stepped" = some (some (.ref f_qk)))
  (h_qk_l:K.lookup f_qk = some ⟨oc_qk,od_qk,.func (PySem.W.fnOf "_law_stepped" "_law_stepped" (Bj Qk) (Bi Qk) (Bd Qk) .none kV_qk dc_qk pm_qk an_qk cd_qk ct_qk),sl_qk⟩)
  (h_qk_c:PySem.W.codeIn K cd_qk "_law_stepped" = true)
  (h_qk_k:PySem.W.keepIn K (.ref f_qk) = true)
  (h_qbo_a:PySem.W.nsIn K mainGlobals "law" = some (some (.ref f_qbo)))
  (h_qbo_l:K.lookup f_qbo = some ⟨oc_qbo,od_qbo,.func (PySem.W.fnOf "law" "law" (Bj Gv) (Bi Gv) (Bd Gv) .none kV_qbo dc_qbo pm_qbo an_qbo cd_qbo ct_qbo),sl_qbo⟩)
  (h_qbo_c:PySem.W.codeIn K cd_qbo "law" = true)
  (h_qbo_k:PySem.W.keepIn K (.ref f_qbo) = true)
  (pg_Book:PySem.W.plainGet K C_Book Str.empty = true)
  (hd_Book:PySem.W.hasDictIn K C_Book = true)
  (po_Book:PySem.W.plainOver K C_Book = true)
  (sa_Book:PySem.W.findIn K (.ref C_Book) "__setattr__" = some (some (.builtin "object.__setattr__")))
  (mk_Book:PySem.W.makesIn K C_Book = true)
  (kc_Book:PySem.W.keepIn K (.ref C_Book) = true)
  (n_Book_kinds:PySem.W.findIn K (.ref C_Book) "kinds" = some none)
  (n_Book_ranks:PySem.W.findIn K (.ref C_Book) "ranks" = some none)
  (n_Book_mates:PySem.W.findIn K (.ref C_Book) "mates" = some none)
  (n_Book_pairs:PySem.W.findIn K (.ref C_Book) "pairs" = some none)
  (n_Book_wholes:PySem.W.findIn K (.ref C_Book) "wholes" = some none)
  (aC_HandsError:PySem.W.nsIn K mainGlobals "HandsError" = some (some (.ref C_HandsError)))
  (x_HandsError:PySem.W.excIn K C_HandsError [.type "ValueError",.type "Exception",.type "BaseException",.type "object"] "ValueError.__new__" = true)
  (aC_NoBook:PySem.W.nsIn K mainGlobals "NoBook" = some (some (.ref C_NoBook)))
  (x_NoBook:PySem.W.excIn K C_NoBook [.type "ValueError",.type "Exception",.type "BaseException",.type "object"] "ValueError.__new__" = true)
  (aC_NoPlace:PySem.W.nsIn K mainGlobals "NoPlace" = some (some (.ref C_NoPlace)))
  (x_NoPlace:PySem.W.excIn K C_NoPlace [.type "ValueError",.type "Exception",.type "BaseException",.type "object"] "ValueError.__new__" = true)
  (aC_NoStep:PySem.W.nsIn K mainGlobals "NoStep" = some (some (.ref C_NoStep)))
  (x_NoStep:PySem.W.excIn K C_NoStep [.type "ValueError",.type "Exception",.type "BaseException",.type "object"] "ValueError.__new__" = true)
  (aC_NoWhat:PySem.W.nsIn K mainGlobals "NoWhat" = some (some (.ref C_NoWhat)))
  (x_NoWhat:PySem.W.excIn K C_NoWhat [.type "ValueError",.type "Exception",.type "BaseException",.type "object"] "ValueError.__new__" = true)
  (aC_NoWidth:PySem.W.nsIn K mainGlobals "NoWidth" = some (some (.ref C_NoWidth)))
  (x_NoWidth:PySem.W.excIn K C_NoWidth [.type "ValueError",.type "Exception",.type "BaseException",.type "object"] "ValueError.__new__" = true)
  (r_NoStep_HandsError:PySem.W.mroIn K C_NoStep (.ref C_HandsError) = some true)
  (Ncd_NoStep:PySem.W.isClsIn K C_NoStep = true)
  (Nga_NoStep:PySem.W.findIn K (.ref C_NoStep) "__getattribute__" = some (some (.builtin "BaseException.__getattribute__")))
  (Ngx_NoStep:PySem.W.findIn K (.ref C_NoStep) "__getattr__" = some none)
  (Ncl_NoStep:PySem.W.findIn K (.ref C_NoStep) "__class__" = some (some (.builtin "object.__class__")))
  (Nsg_NoStep:PySem.W.specialIn K (.builtin "object.__class__") "__get__" = some (some (.builtin "getset_descriptor.__get__")))
  (Ntk_NoStep:PySem.W.takesIn K (.builtin "object.__class__") = some true)
  (NmB_NoStep:PySem.W.mroIn K C_NoStep (.type "BaseException") = some true)
  (NmO_NoStep:PySem.W.mroIn K C_NoStep (.type "object") = some true)
  (i_NoStep_NoStep:PySem.W.kitOne K (.ref C_NoStep) (.ref C_NoStep) = some true)
  (i_NoStep_ValueError:PySem.W.kitOne K (.ref C_NoStep) (.type "ValueError") = some true)
  (i_NoStep_NoBook:PySem.W.kitOne K (.ref C_NoStep) (.ref C_NoBook) = some false)
  (i_NoStep_NoPlace:PySem.W.kitOne K (.ref C_NoStep) (.ref C_NoPlace) = some false)
  (i_NoStep_NoWhat:PySem.W.kitOne K (.ref C_NoStep) (.ref C_NoWhat) = some false)
  (i_NoStep_NoWidth:PySem.W.kitOne K (.ref C_NoStep) (.ref C_NoWidth) = some false)
  (z_ValueError:PySem.W.nsIn K mainGlobals "ValueError" = some none)
  (z_any:PySem.W.nsIn K mainGlobals "any" = some none)
  (z_bool:PySem.W.nsIn K mainGlobals "bool" = some none)
  (z_enumerate:PySem.W.nsIn K mainGlobals "enumerate" = some none)
  (z_int:PySem.W.nsIn K mainGlobals "int" = some none)
  (z_isinstance:PySem.W.nsIn K mainGlobals "isinstance" = some none)
  (z_len:PySem.W.nsIn K mainGlobals "len" = some none)
  (z_list:PySem.W.nsIn K mainGlobals "list" = some none)
  (z_range:PySem.W.nsIn K mainGlobals "range" = some none)
  (z_sorted:PySem.W.nsIn K mainGlobals "sorted" = some none)
  (z_str:PySem.W.nsIn K mainGlobals "str" = some none)
  (z_tuple:PySem.W.nsIn K mainGlobals "tuple" = some none)
  (g_JOINED_KINDS:PySem.W.nsIn K mainGlobals "JOINED_KINDS" = some (some (.ref a_JOINED_KINDS)))
  (l_JOINED_KINDS:K.lookup a_JOINED_KINDS = some ⟨.type "tuple",od_JOINED_KINDS,.seq its_JOINED_KINDS n_JOINED_KINDS,sl_JOINED_KINDS⟩)
  (s_JOINED_KINDS:its_JOINED_KINDS.size <= sizeLine)
  (v_JOINED_KINDS:Vals [.str "fore",.str "back",.str "num",.str "blank",.str "plain"] its_JOINED_KINDS.toList)
  (g_MOST_GOINGS:PySem.W.nsIn K mainGlobals "MOST_GOINGS" = some (some u_MOST_GOINGS))
  (r_MOST_GOINGS:RelV (.int 7) u_MOST_GOINGS)
  (g_TOLD_KINDS:PySem.W.nsIn K mainGlobals "TOLD_KINDS" = some (some (.ref a_TOLD_KINDS)))
  (l_TOLD_KINDS:K.lookup a_TOLD_KINDS = some ⟨.type "tuple",od_TOLD_KINDS,.seq its_TOLD_KINDS n_TOLD_KINDS,sl_TOLD_KINDS⟩)
  (s_TOLD_KINDS:its_TOLD_KINDS.size <= sizeLine)
  (v_TOLD_KINDS:Vals [.str "fore",.str "back",.str "num",.str "blank",.str "mark",.str "forein",.str "backin",.str "out"] its_TOLD_KINDS.toList)
  : ∃ fd:FuncData,(∀ (s:Shared) (v:Value),BindsTo s fd ⟨[v],[]⟩ [("_law_script",v)])/\∀ base:Heap,K.In base->base.Ns mainGlobals mg->FnOk l.prog w K mg base (CX1 l.prog w) 7 fa fd ["_law_script"] (Vb K):=by
 have e:=hfa.symm.trans (PySem.W.mg_of X G h_qbo_a)
 cases e
 have T:Txt K mg ⟨f_qi,PySem.W.fnOf "_law_cell_at" "_law_cell_at" (Bj Qf) (Bi Qf) (Bd Qf) .none kV_qi dc_qi pm_qi an_qi cd_qi ct_qi,f_qbg,PySem.W.fnOf "_law_signs" "_law_signs" (Bj Lv) (Bi Lv) (Bd Lv) .none kV_qbg dc_qbg pm_qbg an_qbg cd_qbg ct_qbg,f_qbd,PySem.W.fnOf "_law_marks" "_law_marks" (Bj Lx) (Bi Lx) (Bd Lx) .none kV_qbd dc_qbd pm_qbd an_qbd cd_qbd ct_qbd,f_qz,PySem.W.fnOf "_law_bases" "_law_bases" (Bj Qe) (Bi Qe) (Bd Qe) .none kV_qz dc_qz pm_qz an_qz cd_qz ct_qz,f_qbb,PySem.W.fnOf "_law_joins" "_law_joins" (Bj Ll) (Bi Ll) (Bd Ll) .none kV_qbb dc_qbb pm_qbb an_qbb cd_qbb ct_qbb,f_qbc,PySem.W.fnOf "_law_lists" "_law_lists" (Bj Ly) (Bi Ly) (Bd Ly) .none kV_qbc dc_qbc pm_qbc an_qbc cd_qbc ct_qbc,f_qbf,PySem.W.fnOf "_law_ranks" "_law_ranks" (Bj Ln) (Bi Ln) (Bd Ln) .none kV_qbf dc_qbf pm_qbf an_qbf cd_qbf ct_qbf,f_qbe,PySem.W.fnOf "_law_parts" "_law_parts" (Bj Lu) (Bi Lu) (Bd Lu) .none kV_qbe dc_qbe pm_qbe an_qbe cd_qbe ct_qbe,f_qr,PySem.W.fnOf "_law_joined" "_law_joined" (Bj Rc) (Bi Rc) (Bd Rc) .none kV_qr dc_qr pm_qr an_qr cd_qr ct_qr,f_qbj,PySem.W.fnOf "_law_text" "_law_text" (Bj Lj) (Bi Lj) (Bd Lj) .none kV_qbj dc_qbj pm_qbj an_qbj cd_qbj ct_qbj,f_qc,PySem.W.fnOf "refuse_unless" "refuse_unless" (Bj Oz) (Bi Oz) (Bd Oz) .none kV_qc dc_qc pm_qc an_qc cd_qc ct_qc,f_qd,PySem.W.fnOf "check_tuples" "check_tuples" (Bj Rn) (Bi Rn) (Bd Rn) .none kV_qd dc_qd pm_qd an_qd cd_qd ct_qd,f_qa,PySem.W.fnOf "is_whole_number" "is_whole_number" (Bj Oy) (Bi Oy) (Bd Oy) .none kV_qa dc_qa pm_qa an_qa cd_qa ct_qa,f_qbk,PySem.W.fnOf "is_sign" "is_sign" (Bj Lm) (Bi Lm) (Bd Lm) .none kV_qbk dc_qbk pm_qbk an_qbk cd_qbk ct_qbk,f_qbi,PySem.W.fnOf "add_kind" "add_kind" (Bj Lk) (Bi Lk) (Bd Lk) .none kV_qbi dc_qbi pm_qbi an_qbi cd_qbi ct_qbi,f_qf,PySem.W.fnOf "is_told_kind" "is_told_kind" (Bj Rk) (Bi Rk) (Bd Rk) .none kV_qf dc_qf pm_qf an_qf cd_qf ct_qf,f_qo,PySem.W.fnOf "is_rank_of" "is_rank_of" (Bj Qq) (Bi Qq) (Bd Qq) .none kV_qo dc_qo pm_qo an_qo cd_qo ct_qo,f_qq,PySem.W.fnOf "kinds_told" "kinds_told" (Bj Ox) (Bi Ox) (Bd Ox) .none kV_qq dc_qq pm_qq an_qq cd_qq ct_qq,f_qt,PySem.W.fnOf "ranks_told" "ranks_told" (Bj Qp) (Bi Qp) (Bd Qp) .none kV_qt dc_qt pm_qt an_qt cd_qt ct_qt,f_qy,PySem.W.fnOf "both_ways" "both_ways" (Bj Qy) (Bi Qy) (Bd Qy) .none kV_qy dc_qy pm_qy an_qy cd_qy ct_qy,f_qp,PySem.W.fnOf "kind_among" "kind_among" (Bj Qg) (Bi Qg) (Bd Qg) .none kV_qp dc_qp pm_qp an_qp cd_qp ct_qp,f_qn,PySem.W.fnOf "check_join" "check_join" (Bj Qn) (Bi Qn) (Bd Qn) .none kV_qn dc_qn pm_qn an_qn cd_qn ct_qn,f_qe,PySem.W.fnOf "ends_in_time" "ends_in_time" (Bj Qw) (Bi Qw) (Bd Qw) .none kV_qe dc_qe pm_qe an_qe cd_qe ct_qe,f_qs,PySem.W.fnOf "pairs_told" "pairs_told" (Bj Qs) (Bi Qs) (Bd Qs) .none kV_qs dc_qs pm_qs an_qs cd_qs ct_qs,f_ql,PySem.W.fnOf "wholes_told" "wholes_told" (Bj Rj) (Bi Rj) (Bd Rj) .none kV_ql dc_ql pm_ql an_ql cd_ql ct_ql,f_qu,PySem.W.fnOf "__init__" "Book.__init__" (Bj Re) (Bi Re) (Bd Re) .none kV_qu dc_qu pm_qu an_qu cd_qu ct_qu,f_qba,PySem.W.fnOf "_law_bears" "_law_bears" (Bj Lw) (Bi Lw) (Bd Lw) .none kV_qba dc_qba pm_qba an_qba cd_qba ct_qba,f_qv,PySem.W.fnOf "kind" "Book.kind" (Bj Qu) (Bi Qu) (Bd Qu) .none kV_qv dc_qv pm_qv an_qv cd_qv ct_qv,f_qx,PySem.W.fnOf "rank" "Book.rank" (Bj Qx) (Bi Qx) (Bd Qx) .none kV_qx dc_qx pm_qx an_qx cd_qx ct_qx,f_qbm,PySem.W.fnOf "turned" "turned" (Bj Lz) (Bi Lz) (Bd Lz) .none kV_qbm dc_qbm pm_qbm an_qbm cd_qbm ct_qbm,f_qm,PySem.W.fnOf "parts" "Book.parts" (Bj Qz) (Bi Qz) (Bd Qz) .none kV_qm dc_qm pm_qm an_qm cd_qm ct_qm,f_qbl,PySem.W.fnOf "opened" "opened" (Bj Ls) (Bi Ls) (Bd Ls) .none kV_qbl dc_qbl pm_qbl an_qbl cd_qbl ct_qbl,f_qh,PySem.W.fnOf "joined" "Book.joined" (Bj Rl) (Bi Rl) (Bd Rl) .none kV_qh dc_qh pm_qh an_qh cd_qh ct_qh,f_qb,PySem.W.fnOf "joined_to_one" "joined_to_one" (Bj Rh) (Bi Rh) (Bd Rh) .none kV_qb dc_qb pm_qb an_qb cd_qb ct_qb,f_qg,PySem.W.fnOf "put_in_place" "put_in_place" (Bj Rb) (Bi Rb) (Bd Rb) .none kV_qg dc_qg pm_qg an_qg cd_qg ct_qg,f_qbh,PySem.W.fnOf "step_done" "step_done" (Bj Lp) (Bi Lp) (Bd Lp) .none kV_qbh dc_qbh pm_qbh an_qbh cd_qbh ct_qbh,f_qj,PySem.W.fnOf "_law_refused" "_law_refused" (Bj Qv) (Bi Qv) (Bd Qv) .none kV_qj dc_qj pm_qj an_qj cd_qj ct_qj,f_qk,PySem.W.fnOf "_law_stepped" "_law_stepped" (Bj Qk) (Bi Qk) (Bd Qk) .none kV_qk dc_qk pm_qk an_qk cd_qk ct_qk,fa,PySem.W.fnOf "law" "law" (Bj Gv) (Bi Gv) (Bd Gv) .none kV_qbo dc_qbo pm_qbo an_qbo cd_qbo ct_qbo,C_Book,a_JOINED_KINDS,a_TOLD_KINDS,C_HandsError,C_NoBook,C_NoPlace,C_NoStep,C_NoWhat,C_NoWidth⟩:={
  F_qi:=Ch (st:=Qf) h_qi_l h_qi_c h_qi_k
  m_qi:=PySem.W.mg_of X G h_qi_a
  F_qbg:=Ch (st:=Lv) h_qbg_l h_qbg_c h_qbg_k
  m_qbg:=PySem.W.mg_of X G h_qbg_a
  F_qbd:=Ch (st:=Lx) h_qbd_l h_qbd_c h_qbd_k
  m_qbd:=PySem.W.mg_of X G h_qbd_a
  F_qz:=Ch (st:=Qe) h_qz_l h_qz_c h_qz_k
  m_qz:=PySem.W.mg_of X G h_qz_a
  F_qbb:=Ch (st:=Ll) h_qbb_l h_qbb_c h_qbb_k
  m_qbb:=PySem.W.mg_of X G h_qbb_a
  F_qbc:=Ch (st:=Ly) h_qbc_l h_qbc_c h_qbc_k
  m_qbc:=PySem.W.mg_of X G h_qbc_a
  F_qbf:=Ch (st:=Ln) h_qbf_l h_qbf_c h_qbf_k
  m_qbf:=PySem.W.mg_of X G h_qbf_a
  F_qbe:=Ch (st:=Lu) h_qbe_l h_qbe_c h_qbe_k
  m_qbe:=PySem.W.mg_of X G h_qbe_a
  F_qr:=Ch (st:=Rc) h_qr_l h_qr_c h_qr_k
  m_qr:=PySem.W.mg_of X G h_qr_a
  F_qbj:=Ch (st:=Lj) h_qbj_l h_qbj_c h_qbj_k
  m_qbj:=PySem.W.mg_of X G h_qbj_a
  F_qc:=Ch (st:=Oz) h_qc_l h_qc_c h_qc_k
  m_qc:=PySem.W.mg_of X G h_qc_a
  F_qd:=Ch (st:=Rn) h_qd_l h_qd_c h_qd_k
  m_qd:=PySem.W.mg_of X G h_qd_a
  F_qa:=Ch (st:=Oy) h_qa_l h_qa_c h_qa_k
  m_qa:=PySem.W.mg_of X G h_qa_a
  F_qbk:=Ch (st:=Lm) h_qbk_l h_qbk_c h_qbk_k
  m_qbk:=PySem.W.mg_of X G h_qbk_a
  F_qbi:=Ch (st:=Lk) h_qbi_l h_qbi_c h_qbi_k
  m_qbi:=PySem.W.mg_of X G h_qbi_a
  F_qf:=Ch (st:=Rk) h_qf_l h_qf_c h_qf_k
  m_qf:=PySem.W.mg_of X G h_qf_a
  F_qo:=Ch (st:=Qq) h_qo_l h_qo_c h_qo_k
  m_qo:=PySem.W.mg_of X G h_qo_a
  F_qq:=Ch (st:=Ox) h_qq_l h_qq_c h_qq_k
  m_qq:=PySem.W.mg_of X G h_qq_a
  F_qt:=Ch (st:=Qp) h_qt_l h_qt_c h_qt_k
  m_qt:=PySem.W.mg_of X G h_qt_a
  F_qy:=Ch (st:=Qy) h_qy_l h_qy_c h_qy_k
  m_qy:=PySem.W.mg_of X G h_qy_a
  F_qp:=Ch (st:=Qg) h_qp_l h_qp_c h_qp_k
  m_qp:=PySem.W.mg_of X G h_qp_a
  F_qn:=Ch (st:=Qn) h_qn_l h_qn_c h_qn_k
  m_qn:=PySem.W.mg_of X G h_qn_a
  F_qe:=Ch (st:=Qw) h_qe_l h_qe_c h_qe_k
  m_qe:=PySem.W.mg_of X G h_qe_a
  F_qs:=Ch (st:=Qs) h_qs_l h_qs_c h_qs_k
  m_qs:=PySem.W.mg_of X G h_qs_a
  F_ql:=Ch (st:=Rj) h_ql_l h_ql_c h_ql_k
  m_ql:=PySem.W.mg_of X G h_ql_a
  F_qu:=Ch (st:=Re) h_qu_l h_qu_c h_qu_k
  F_qba:=Ch (st:=Lw) h_qba_l h_qba_c h_qba_k
  m_qba:=PySem.W.mg_of X G h_qba_a
  F_qv:=Ch (st:=Qu) h_qv_l h_qv_c h_qv_k
  M_qv:=⟨h_qv_a,h_qv_i,h_qv_k⟩
  F_qx:=Ch (st:=Qx) h_qx_l h_qx_c h_qx_k
  M_qx:=⟨h_qx_a,h_qx_i,h_qx_k⟩
  F_qbm:=Ch (st:=Lz) h_qbm_l h_qbm_c h_qbm_k
  m_qbm:=PySem.W.mg_of X G h_qbm_a
  F_qm:=Ch (st:=Qz) h_qm_l h_qm_c h_qm_k
  M_qm:=⟨h_qm_a,h_qm_i,h_qm_k⟩
  F_qbl:=Ch (st:=Ls) h_qbl_l h_qbl_c h_qbl_k
  m_qbl:=PySem.W.mg_of X G h_qbl_a
  F_qh:=Ch (st:=Rl) h_qh_l h_qh_c h_qh_k
  M_qh:=⟨h_qh_a,h_qh_i,h_qh_k⟩
  F_qb:=Ch (st:=Rh) h_qb_l h_qb_c h_qb_k
  m_qb:=PySem.W.mg_of X G h_qb_a
  F_qg:=Ch (st:=Rb) h_qg_l h_qg_c h_qg_k
  m_qg:=PySem.W.mg_of X G h_qg_a
  F_qbh:=Ch (st:=Lp) h_qbh_l h_qbh_c h_qbh_k
  m_qbh:=PySem.W.mg_of X G h_qbh_a
  F_qj:=Ch (st:=Qv) h_qj_l h_qj_c h_qj_k
  m_qj:=PySem.W.mg_of X G h_qj_a
  F_qk:=Ch (st:=Qk) h_qk_l h_qk_c h_qk_k
  m_qk:=PySem.W.mg_of X G h_qk_a
  F_qbo:=Ch (st:=Gv) h_qbo_l h_qbo_c h_qbo_k
  m_qbo:=PySem.W.mg_of X G h_qbo_a
  m_Book:=PySem.W.mg_of X G aC_Book
  cl_Book:=⟨pg_Book,hd_Book,po_Book,sa_Book⟩
  K_Book:=⟨mk_Book,h_qu_a,h_qu_i,kc_Book⟩
  n_Book_kinds:=n_Book_kinds
  n_Book_ranks:=n_Book_ranks
  n_Book_mates:=n_Book_mates
  n_Book_pairs:=n_Book_pairs
  n_Book_wholes:=n_Book_wholes
  m_HandsError:=PySem.W.mg_of X G aC_HandsError
  x_HandsError:=x_HandsError
  m_NoBook:=PySem.W.mg_of X G aC_NoBook
  x_NoBook:=x_NoBook
  m_NoPlace:=PySem.W.mg_of X G aC_NoPlace
  x_NoPlace:=x_NoPlace
  m_NoStep:=PySem.W.mg_of X G aC_NoStep
  x_NoStep:=x_NoStep
  m_NoWhat:=PySem.W.mg_of X G aC_NoWhat
  x_NoWhat:=x_NoWhat
  m_NoWidth:=PySem.W.mg_of X G aC_NoWidth
  x_NoWidth:=x_NoWidth
  r_NoStep_HandsError:=r_NoStep_HandsError
  N_NoStep:=⟨Ncd_NoStep,Nga_NoStep,Ngx_NoStep,Ncl_NoStep,Nsg_NoStep,Ntk_NoStep,NmB_NoStep,NmO_NoStep⟩
  i_NoStep_NoStep:=i_NoStep_NoStep
  i_NoStep_ValueError:=i_NoStep_ValueError
  i_NoStep_NoBook:=i_NoStep_NoBook
  i_NoStep_NoPlace:=i_NoStep_NoPlace
  i_NoStep_NoWhat:=i_NoStep_NoWhat
  i_NoStep_NoWidth:=i_NoStep_NoWidth
  z_ValueError:=PySem.W.mg_none_of X G z_ValueError
  z_any:=PySem.W.mg_none_of X G z_any
  z_bool:=PySem.W.mg_none_of X G z_bool
  z_enumerate:=PySem.W.mg_none_of X G z_enumerate
  z_int:=PySem.W.mg_none_of X G z_int
  z_isinstance:=PySem.W.mg_none_of X G z_isinstance
  z_len:=PySem.W.mg_none_of X G z_len
  z_list:=PySem.W.mg_none_of X G z_list
  z_range:=PySem.W.mg_none_of X G z_range
  z_sorted:=PySem.W.mg_none_of X G z_sorted
  z_str:=PySem.W.mg_none_of X G z_str
  z_tuple:=PySem.W.mg_none_of X G z_tuple
  g_JOINED_KINDS:=PySem.W.mg_of X G g_JOINED_KINDS
  q_JOINED_KINDS:=fun _=>.inr ⟨_,_,_,l_JOINED_KINDS,rfl,rfl,s_JOINED_KINDS,v_JOINED_KINDS⟩
  g_MOST_GOINGS:=⟨_,PySem.W.mg_of X G g_MOST_GOINGS,r_MOST_GOINGS⟩
  g_TOLD_KINDS:=PySem.W.mg_of X G g_TOLD_KINDS
  q_TOLD_KINDS:=fun _=>.inr ⟨_,_,_,l_TOLD_KINDS,rfl,rfl,s_TOLD_KINDS,v_TOLD_KINDS⟩ }
 exact ⟨PySem.W.fnOf "law" "law" (Bj Gv) (Bi Gv) (Bd Gv) .none kV_qbo dc_qbo pm_qbo an_qbo cd_qbo ct_qbo,fun s v=>.of_eq rfl,fun base _ _=>(Aie T).imp AgJ⟩
theorem walk {l:PySem.W.OpenLaw} {q:Program} {loose:List Str} {XP:(Str->Option Value)->Heap->Prop} {YP:World->Heap->Prop} {d:DefRec} {K:Params->PySem.W.Frag} (hn:l.most = some 63) (hdf:d.params.defaults = [])
  (hY:∀ (w:World) (h:Heap),YP w h->(K w.params).In h)
  (F:∀ (w:World) (mg:Str->Option Value) (fa:Addr) (h:Heap),(K w.params).In h->h.Ns mainGlobals mg->mg d.name = some (.ref fa) ->
   ∃ fd:FuncData,(∀ (s:Shared) (u:Value),BindsTo s fd ⟨[u],[]⟩ [("_law_script",u)])/\∀ base:Heap,(K w.params).In base->base.Ns mainGlobals mg->FnOk l.prog w (K w.params) mg base (CX1 l.prog w) 7 fa fd ["_law_script"] (Vb (K w.params))) :
  PySem.W.WalkO q loose XP YP l.row.toRowW d [] (fun f vs=>PySem.call f vs) :=
 L2.Ak5 (n:=63) (k:=7) (x:="_law_script") (CX:=fun w=>(CX1 l.prog w)) (sp:=fun w=>Vb (K w.params)) hn (by decide) hdf ⟨rfl,by decide,by decide⟩ hY F (fun _ _ a ns hl _ hS=>⟨a,ns,rfl,hS,hl,fun _=>rfl⟩) fun _ _ _ _ _ z=>by obtain ⟨_,_,_,_,_,_,_,_,_,_,_,_,_,_,z⟩:=z; exact z
end My
open PySem PySem.W PyProof.Rows
set_option maxRecDepth 100000 in
set_option maxHeartbeats 0 in
theorem PySem.Challenge.cw_bothhands_k21_steps_refused_holds : PySem.Challenge.rw_bothhands_k21_steps_refused.Holds := by
 w_on; o_law; k_head; (case hw=>w_witness2)
 k_fill
 refine My.walk (l:=PySem.Challenge.rw_bothhands_k21_steps_refused) rfl rfl (fun w h Y=>PySem.W.kIn_of Y) ?F
 case F =>
  intro w mg fa h KX G hmg
  refine' My.all_mk KX G hmg ?aC_Book ?h_qi_a ?h_qi_l ?h_qi_c ?h_qi_k ?h_qbg_a ?h_qbg_l ?h_qbg_c ?h_qbg_k ?h_qbd_a ?h_qbd_l ?h_qbd_c ?h_qbd_k ?h_qz_a ?h_qz_l ?h_qz_c ?h_qz_k ?h_qbb_a ?h_qbb_l ?h_qbb_c ?h_qbb_k ?h_qbc_a ?h_qbc_l ?h_qbc_c ?h_qbc_k ?h_qbf_a ?h_qbf_l ?h_qbf_c ?h_qbf_k ?h_qbe_a ?h_qbe_l ?h_qbe_c ?h_qbe_k ?h_qr_a ?h_qr_l ?h_qr_c ?h_qr_k ?h_qbj_a ?h_qbj_l ?h_qbj_c ?h_qbj_k ?h_qc_a ?h_qc_l ?h_qc_c ?h_qc_k ?h_qd_a ?h_qd_l ?h_qd_c ?h_qd_k ?h_qa_a ?h_qa_l ?h_qa_c ?h_qa_k ?h_qbk_a ?h_qbk_l ?h_qbk_c ?h_qbk_k ?h_qbi_a ?h_qbi_l ?h_qbi_c ?h_qbi_k ?h_qf_a ?h_qf_l ?h_qf_c ?h_qf_k ?h_qo_a ?h_qo_l ?h_qo_c ?h_qo_k ?h_qq_a ?h_qq_l ?h_qq_c ?h_qq_k ?h_qt_a ?h_qt_l ?h_qt_c ?h_qt_k ?h_qy_a ?h_qy_l ?h_qy_c ?h_qy_k ?h_qp_a ?h_qp_l ?h_qp_c ?h_qp_k ?h_qn_a ?h_qn_l ?h_qn_c ?h_qn_k ?h_qe_a ?h_qe_l ?h_qe_c ?h_qe_k ?h_qs_a ?h_qs_l ?h_qs_c ?h_qs_k ?h_ql_a ?h_ql_l ?h_ql_c ?h_ql_k ?h_qu_a ?h_qu_i ?h_qu_l ?h_qu_c ?h_qu_k ?h_qba_a ?h_qba_l ?h_qba_c ?h_qba_k ?h_qv_a ?h_qv_i ?h_qv_l ?h_qv_c ?h_qv_k ?h_qx_a ?h_qx_i ?h_qx_l ?h_qx_c ?h_qx_k ?h_qbm_a ?h_qbm_l ?h_qbm_c ?h_qbm_k ?h_qm_a ?h_qm_i ?h_qm_l ?h_qm_c ?h_qm_k ?h_qbl_a ?h_qbl_l ?h_qbl_c ?h_qbl_k ?h_qh_a ?h_qh_i ?h_qh_l ?h_qh_c ?h_qh_k ?h_qb_a ?h_qb_l ?h_qb_c ?h_qb_k ?h_qg_a ?h_qg_l ?h_qg_c ?h_qg_k ?h_qbh_a ?h_qbh_l ?h_qbh_c ?h_qbh_k ?h_qj_a ?h_qj_l ?h_qj_c ?h_qj_k ?h_qk_a ?h_qk_l ?h_qk_c ?h_qk_k ?h_qbo_a ?h_qbo_l ?h_qbo_c ?h_qbo_k ?pg_Book ?hd_Book ?po_Book ?sa_Book ?mk_Book ?kc_Book ?n_Book_kinds ?n_Book_ranks ?n_Book_mates ?n_Book_pairs ?n_Book_wholes ?aC_HandsError ?x_HandsError ?aC_NoBook ?x_NoBook ?aC_NoPlace ?x_NoPlace ?aC_NoStep ?x_NoStep ?aC_NoWhat ?x_NoWhat ?aC_NoWidth ?x_NoWidth ?r_NoStep_HandsError ?Ncd_NoStep ?Nga_NoStep ?Ngx_NoStep ?Ncl_NoStep ?Nsg_NoStep ?Ntk_NoStep ?NmB_NoStep ?NmO_NoStep ?i_NoStep_NoStep ?i_NoStep_ValueError ?i_NoStep_NoBook ?i_NoStep_NoPlace ?i_NoStep_NoWhat ?i_NoStep_NoWidth ?z_ValueError ?z_any ?z_bool ?z_enumerate ?z_int ?z_isinstance ?z_len ?z_list ?z_range ?z_sorted ?z_str ?z_tuple ?g_JOINED_KINDS ?l_JOINED_KINDS ?s_JOINED_KINDS ?v_JOINED_KINDS ?g_MOST_GOINGS ?r_MOST_GOINGS ?g_TOLD_KINDS ?l_TOLD_KINDS ?s_TOLD_KINDS ?v_TOLD_KINDS
  (case aC_Book=>k_is)
  (case h_qi_a=>k_is)
  (case h_qi_l=>k_is)
  (case h_qi_c=>k_is)
  (case h_qi_k=>k_is)
  (case h_qbg_a=>k_is)
  (case h_qbg_l=>k_is)
  (case h_qbg_c=>k_is)
  (case h_qbg_k=>k_is)
  (case h_qbd_a=>k_is)
  (case h_qbd_l=>k_is)
  (case h_qbd_c=>k_is)
  (case h_qbd_k=>k_is)
  (case h_qz_a=>k_is)
  (case h_qz_l=>k_is)
  (case h_qz_c=>k_is)
  (case h_qz_k=>k_is)
  (case h_qbb_a=>k_is)
  (case h_qbb_l=>k_is)
  (case h_qbb_c=>k_is)
  (case h_qbb_k=>k_is)
  (case h_qbc_a=>k_is)
  (case h_qbc_l=>k_is)
  (case h_qbc_c=>k_is)
  (case h_qbc_k=>k_is)
  (case h_qbf_a=>k_is)
  (case h_qbf_l=>k_is)
  (case h_qbf_c=>k_is)
  (case h_qbf_k=>k_is)
  (case h_qbe_a=>k_is)
  (case h_qbe_l=>k_is)
  (case h_qbe_c=>k_is)
  (case h_qbe_k=>k_is)
  (case h_qr_a=>k_is)
  (case h_qr_l=>k_is)
  (case h_qr_c=>k_is)
  (case h_qr_k=>k_is)
  (case h_qbj_a=>k_is)
  (case h_qbj_l=>k_is)
  (case h_qbj_c=>k_is)
  (case h_qbj_k=>k_is)
  (case h_qc_a=>k_is)
  (case h_qc_l=>k_is)
  (case h_qc_c=>k_is)
  (case h_qc_k=>k_is)
  (case h_qd_a=>k_is)
  (case h_qd_l=>k_is)
  (case h_qd_c=>k_is)
  (case h_qd_k=>k_is)
  (case h_qa_a=>k_is)
  (case h_qa_l=>k_is)
  (case h_qa_c=>k_is)
  (case h_qa_k=>k_is)
  (case h_qbk_a=>k_is)
  (case h_qbk_l=>k_is)
  (case h_qbk_c=>k_is)
  (case h_qbk_k=>k_is)
  (case h_qbi_a=>k_is)
  (case h_qbi_l=>k_is)
  (case h_qbi_c=>k_is)
  (case h_qbi_k=>k_is)
  (case h_qf_a=>k_is)
  (case h_qf_l=>k_is)
  (case h_qf_c=>k_is)
  (case h_qf_k=>k_is)
  (case h_qo_a=>k_is)
  (case h_qo_l=>k_is)
  (case h_qo_c=>k_is)
  (case h_qo_k=>k_is)
  (case h_qq_a=>k_is)
  (case h_qq_l=>k_is)
  (case h_qq_c=>k_is)
  (case h_qq_k=>k_is)
  (case h_qt_a=>k_is)
  (case h_qt_l=>k_is)
  (case h_qt_c=>k_is)
  (case h_qt_k=>k_is)
  (case h_qy_a=>k_is)
  (case h_qy_l=>k_is)
  (case h_qy_c=>k_is)
  (case h_qy_k=>k_is)
  (case h_qp_a=>k_is)
  (case h_qp_l=>k_is)
  (case h_qp_c=>k_is)
  (case h_qp_k=>k_is)
  (case h_qn_a=>k_is)
  (case h_qn_l=>k_is)
  (case h_qn_c=>k_is)
  (case h_qn_k=>k_is)
  (case h_qe_a=>k_is)
  (case h_qe_l=>k_is)
  (case h_qe_c=>k_is)
  (case h_qe_k=>k_is)
  (case h_qs_a=>k_is)
  (case h_qs_l=>k_is)
  (case h_qs_c=>k_is)
  (case h_qs_k=>k_is)
  (case h_ql_a=>k_is)
  (case h_ql_l=>k_is)
  (case h_ql_c=>k_is)
  (case h_ql_k=>k_is)
  (case h_qu_a=>k_is)
  (case h_qu_i=>k_is)
  (case h_qu_l=>k_is)
  (case h_qu_c=>k_is)
  (case h_qu_k=>k_is)
  (case h_qba_a=>k_is)
  (case h_qba_l=>k_is)
  (case h_qba_c=>k_is)
  (case h_qba_k=>k_is)
  (case h_qv_a=>k_is)
  (case h_qv_i=>k_is)
  (case h_qv_l=>k_is)
  (case h_qv_c=>k_is)
  (case h_qv_k=>k_is)
  (case h_qx_a=>k_is)
  (case h_qx_i=>k_is)
  (case h_qx_l=>k_is)
  (case h_qx_c=>k_is)
  (case h_qx_k=>k_is)
  (case h_qbm_a=>k_is)
  (case h_qbm_l=>k_is)
  (case h_qbm_c=>k_is)
  (case h_qbm_k=>k_is)
  (case h_qm_a=>k_is)
  (case h_qm_i=>k_is)
  (case h_qm_l=>k_is)
  (case h_qm_c=>k_is)
  (case h_qm_k=>k_is)
  (case h_qbl_a=>k_is)
  (case h_qbl_l=>k_is)
  (case h_qbl_c=>k_is)
  (case h_qbl_k=>k_is)
  (case h_qh_a=>k_is)
  (case h_qh_i=>k_is)
  (case h_qh_l=>k_is)
  (case h_qh_c=>k_is)
  (case h_qh_k=>k_is)
  (case h_qb_a=>k_is)
  (case h_qb_l=>k_is)
  (case h_qb_c=>k_is)
  (case h_qb_k=>k_is)
  (case h_qg_a=>k_is)
  (case h_qg_l=>k_is)
  (case h_qg_c=>k_is)
  (case h_qg_k=>k_is)
  (case h_qbh_a=>k_is)
  (case h_qbh_l=>k_is)
  (case h_qbh_c=>k_is)
  (case h_qbh_k=>k_is)
  (case h_qj_a=>k_is)
  (case h_qj_l=>k_is)
  (case h_qj_c=>k_is)
  (case h_qj_k=>k_is)
  (case h_qk_a=>k_is)
  (case h_qk_l=>k_is)
  (case h_qk_c=>k_is)
  (case h_qk_k=>k_is)
  (case h_qbo_a=>k_is)
  (case h_qbo_l=>k_is)
  (case h_qbo_c=>k_is)
  (case h_qbo_k=>k_is)
  (case pg_Book=>k_is)
  (case hd_Book=>k_is)
  (case po_Book=>k_is)
  (case sa_Book=>k_is)
  (case mk_Book=>k_is)
  (case kc_Book=>k_is)
  (case n_Book_kinds=>k_is)
  (case n_Book_ranks=>k_is)
  (case n_Book_mates=>k_is)
  (case n_Book_pairs=>k_is)
  (case n_Book_wholes=>k_is)
  (case aC_HandsError=>k_is)
  (case x_HandsError=>k_exc)
  (case aC_NoBook=>k_is)
  (case x_NoBook=>k_exc)
  (case aC_NoPlace=>k_is)
  (case x_NoPlace=>k_exc)
  (case aC_NoStep=>k_is)
  (case x_NoStep=>k_exc)
  (case aC_NoWhat=>k_is)
  (case x_NoWhat=>k_exc)
  (case aC_NoWidth=>k_is)
  (case x_NoWidth=>k_exc)
  (case r_NoStep_HandsError=>k_is)
  (case Ncd_NoStep=>k_is)
  (case Nga_NoStep=>k_is)
  (case Ngx_NoStep=>k_is)
  (case Ncl_NoStep=>k_is)
  (case Nsg_NoStep=>k_is)
  (case Ntk_NoStep=>k_is)
  (case NmB_NoStep=>k_is)
  (case NmO_NoStep=>k_is)
  (case i_NoStep_NoStep=>kit_is)
  (case i_NoStep_ValueError=>kit_is)
  (case i_NoStep_NoBook=>kit_is)
  (case i_NoStep_NoPlace=>kit_is)
  (case i_NoStep_NoWhat=>kit_is)
  (case i_NoStep_NoWidth=>kit_is)
  (case z_ValueError=>k_is)
  (case z_any=>k_is)
  (case z_bool=>k_is)
  (case z_enumerate=>k_is)
  (case z_int=>k_is)
  (case z_isinstance=>k_is)
  (case z_len=>k_is)
  (case z_list=>k_is)
  (case z_range=>k_is)
  (case z_sorted=>k_is)
  (case z_str=>k_is)
  (case z_tuple=>k_is)
  (case g_JOINED_KINDS=>k_is)
  (case l_JOINED_KINDS=>k_is)
  (case s_JOINED_KINDS=>decide)
  (case v_JOINED_KINDS=>exact .cons ⟨_,rfl⟩ (.cons ⟨_,rfl⟩ (.cons ⟨_,rfl⟩ (.cons ⟨_,rfl⟩ (.cons ⟨_,rfl⟩ (.nil))))))
  (case g_MOST_GOINGS=>k_is)
  (case r_MOST_GOINGS=>exact ⟨_,rfl⟩)
  (case g_TOLD_KINDS=>k_is)
  (case l_TOLD_KINDS=>k_is)
  (case s_TOLD_KINDS=>decide)
  (case v_TOLD_KINDS=>exact .cons ⟨_,rfl⟩ (.cons ⟨_,rfl⟩ (.cons ⟨_,rfl⟩ (.cons ⟨_,rfl⟩ (.cons ⟨_,rfl⟩ (.cons ⟨_,rfl⟩ (.cons ⟨_,rfl⟩ (.cons ⟨_,rfl⟩ (.nil)))))))))
