import PyProof.Rows.All
import Wide.All
import OpenK.AllK
import Wide.FinOn
import Lean
import PyProof.EqAt
import PyProof.EqKinds
import PyProof.TupleCall
import KE.KTryMore
import KE.KRevIter
import KE.KSortTup
import KE.KDictSum
import KE.KRevSl
import PyProof.Rows.TupDisplay
import PyProof.EnumFor
import PyProof.EnumMake
import PyProof.EnumStmt
import PyProof.DictUpdate
import PyProof.AttrMissSeq
import KE.KDictOf
import PySem.Challenge.RW_cellpatches_k81_whole_read
set_option Elab.async false
set_option linter.all false
set_option maxRecDepth 100000
namespace L2
open PySem PySem.Spec PyProof.Rows
abbrev Key:=Sum Int Str
def oA:Key→Value→Bool
 | .inl k,v=>Value.isInt k v
 | .inr x,v=>Value.isStrOf x v
def qG (w:World):Key→Int
 | .inl k=>hashInt k
 | .inr x=>hashStr w x
theorem aR:∀{k:Key}{v:Value},oA k v=true→(∃i t,k=Sum.inl i∧v=Value.int i t)∨(∃x t,k=Sum.inr x∧v=Value.str x t)
 | .inl i,v,h=>by
   obtain⟨t,e⟩:=Value.isInt_shape (k:=i) (v:=v) h
   exact .inl ⟨i,t,rfl,e⟩
 | .inr x,v,h=>by
   obtain⟨t,e⟩:=Value.isStrOf_shape (x:=x) (v:=v) h
   exact .inr ⟨x,t,rfl,e⟩
theorem o4 (a b:Int):decide ((Sum.inl a:Key)=Sum.inl b)=(a==b):=by
 by_cases e:a=b
 ·subst e;simp
 ·have h:¬(Sum.inl a:Key)=Sum.inl b:=fun q=>e (Sum.inl.inj q)
  rw[decide_eq_false h]
  exact(beq_eq_false_iff_ne.mpr e).symm
theorem o7 (a b:Str):decide ((Sum.inr a:Key)=Sum.inr b)=decide (a=b):=by
 by_cases e:a=b
 ·subst e;simp
 ·have h:¬(Sum.inr a:Key)=Sum.inr b:=fun q=>e (Sum.inr.inj q)
  rw[decide_eq_false h,decide_eq_false e]
theorem o5 (a:Int) (b:Str):decide ((Sum.inl a:Key)=Sum.inr b)=false:=decide_eq_false (fun q=>nomatch q)
theorem o6 (a:Str) (b:Int):decide ((Sum.inr a:Key)=Sum.inl b)=false:=decide_eq_false (fun q=>nomatch q)
def g5 (prog:Program) (w:World):PySem.KeyKind prog w Key where
 is:=oA
 hash:=qG w
 inj:=fun v a b ha hb=>by
  rcases aR ha with⟨i,t,rfl,rfl⟩ | ⟨x,t,rfl,rfl⟩
  ·rcases aR hb with⟨j,u,rfl,e⟩ | ⟨y,u,rfl,e⟩
   ·injection e with e1 _;rw[e1]
   ·exact nomatch e
  ·rcases aR hb with⟨j,u,rfl,e⟩ | ⟨y,u,rfl,e⟩
   ·exact nomatch e
   ·injection e with e1 _;rw[e1]
 byValue:=fun k v h=>by
  rcases aR h with⟨i,t,rfl,rfl⟩ | ⟨x,t,rfl,rfl⟩<;>rfl
 pyHash:=fun hv h=>by
  rcases aR hv with⟨i,t,rfl,rfl⟩ | ⟨x,t,rfl,rfl⟩
  ·exact wpAny_pyHash_int h
  ·exact wpAny_pyHash_str h
 eqBool:=fun hu hv h=>by
  rcases aR hu with⟨i,t,rfl,rfl⟩ | ⟨x,t,rfl,rfl⟩
  ·rcases aR hv with⟨j,u,rfl,rfl⟩ | ⟨y,u,rfl,rfl⟩
   ·rw[o4] at h;exact wpAny_eqBool_int h
   ·rw[o5] at h;exact SeqAt.EqAt.int_str i t y u _ _ _ _ h
  ·rcases aR hv with⟨j,u,rfl,rfl⟩ | ⟨y,u,rfl,rfl⟩
   ·rw[o6] at h;exact SeqAt.EqAt.str_int x t j u _ _ _ _ h
   ·rw[o7] at h;exact wpAny_eqBool_str h
 «strs» :=fun k x t v h=>by
  rcases aR h with⟨i,u,rfl,e⟩ | ⟨y,u,rfl,e⟩
  ·exact nomatch e
  ·injection e with e1 _
   subst e1
   cases v<;>rfl
end L2
namespace L2
open PySem PySem.Spec PyProof.Rows
inductive V where
 |non | bl (b:Bool) | int (i:Int) | str (x:Str) | byt (b:Array UInt8) | flt (b:UInt64) | ref (a:Addr) | ty (n:String)
 deriving DecidableEq
def RelV:V→Value→Prop
 | .non,u=>u=Value.none
 | .bl b,u=>u=Value.bool b
 | .int i,u=>∃t,u=Value.int i t
 | .str x,u=>∃t,u=Value.str x t
 | .byt b,u=>∃t,u=Value.bytes b t
 | .flt b,u=>∃t,u=Value.float b t
 | .ref a,u=>u=Value.ref a
 | .ty n,u=>u=Value.type n
abbrev Vals:List V→List Value→Prop:=Paired RelV
theorem Vals.length {xs:List V}{us:List Value}(r:Vals xs us):xs.length=us.length:=Paired.length r
theorem Vals.get:∀{xs:List V}{us:List Value}{i:Nat}{x:V},Vals xs us→xs[i]? =some x→∃u,us[i]? =some u∧RelV x u
 |_,_,_,_, .nil,e=>by simp at e
 |_,_,0,_, .cons r _,e=>by simp at e;subst e;exact⟨_,rfl,r⟩
 |_,_,i+1,x, .cons _ t,e=>by
  obtain⟨u,h1,h2⟩:=Vals.get (i:=i) (x:=x) t (by simpa using e)
  exact⟨u,by simpa using h1,h2⟩
theorem Vals.append:∀{xs ys:List V}{us ws:List Value},Vals xs us→Vals ys ws→Vals (xs++ys) (us++ws)
 |_,_,_,_, .nil,s=>s
 |_,_,_,_, .cons r t,s=> .cons r (Vals.append t s)
theorem Vals.take:∀{xs:List V}{us:List Value}(n:Nat),Vals xs us→Vals (xs.take n) (us.take n)
 |_,_,0,_=> .nil
 |_,_,_+1, .nil=> .nil
 |_,_,n+1, .cons r t=> .cons r (Vals.take n t)
theorem Vals.drop:∀{xs:List V}{us:List Value}(n:Nat),Vals xs us→Vals (xs.drop n) (us.drop n)
 |_,_,0,r=>r
 |_,_,_+1, .nil=> .nil
 |_,_,n+1, .cons _ t=>Vals.drop n t
def RelO:Option V→Option Value→Prop
 |some v,some u=>RelV v u
 |none,none=>True
 |_,_=>False
def KV {κ:Type}:List (κ×V)→List (κ×Value)→Prop:=Paired fun(p:κ×V) (q:κ×Value)=>p.1=q.1∧RelV p.2 q.2
def kV:Key→V
 | .inl i=> .int i
 | .inr x=> .str x
inductive HO where
 |lst (xs:List V)
 |tup (xs:List V)
 |dK (kvs:List (Key×V)) | dT (kvs:List (List Key×V))
 |set (S:Int→Bool) (n:Nat)
 |ins (C dx:Addr) (fs:List (Str×V))
 |own (x:Addr)
 |xd (fs:List (Str×V))
 |met (f x:Addr)
 |rng (lo hi:Int)
 |frz (o:Obj) (u:HO)
 |tbl (ps:Array Value)
 |ext (φ:Heap→Prop)
abbrev Hp:=Addr→Option HO
def upd (H:Hp) (a:Addr) (o:HO):Hp:=fun b=>if b=a then some o else H b
theorem au {H:Hp}{a:Addr}{o:HO}:upd H a o a=some o:=by unfold upd;rw[if_pos rfl]
theorem aj {H:Hp}{a b:Addr}{o:HO}(h:b≠a):upd H a o b=H b:=by unfold upd;rw[if_neg h]
theorem aM {H:Hp}{a b:Addr}{o:HO}(h:H a=some o) (h':H b=none):a≠b:=by
 intro e;subst e;rw[h] at h';cases h'
section
variable (P : Program) (w : World)
def ObjOk (H:Hp) (h:Heap) (a:Addr):HO→Prop
 | .lst xs=>xs.length≤sizeLine∧∃(its:List Value) (n:Nat),Vals xs its∧h.get? a=some {cls:= .type "list",data:= .seq its.toArray n}
 | .tup xs=>xs.length≤sizeLine∧∃its:List Value,Vals xs its∧IsTup h a its.toArray
 | .dK kvs=>kvs.length≤sizeLine∧(a==sysModules)=false∧∃vs,KV kvs vs∧h.DictOf (g5 P w) a vs
 | .dT kvs=>kvs.length≤sizeLine∧(a==sysModules)=false∧∃xs:List (List Key×Addr×Value),
    Paired (fun (p:List Key×V) (q:List Key×Addr×Value)=>p.1=q.1∧H q.2.1=some (.tup (p.1.map kV))∧RelV p.2 q.2.2) kvs xs∧
    ∃o es ep,h.get? a=some o∧o.ExactDict∧o.data= .dict es ep∧es.toList=xs.map (entryOfKey (tupleKind (g5 P w)))∧(xs.map (·.1)).Nodup
 | .set S n=>h.SetOf (intKind P w) a S n
 | .ins C dx fs=>H dx=some (.own a)∧fs.length≤1000∧dx≠a∧h.get? a=some (PySem.W.instObj C dx)∧
    ∃mA,h.Ns1 dx mA∧(∀f,RelO (fs.lookup f) (mA f))∧PySem.Within mA (fs.map (·.1))
 | .own _=>∃o,h.get? a=some o
 | .xd fs=>∃mA,h.Ns1 a mA∧∀f,RelO (fs.lookup f) (mA f)
 | .rng lo hi=>∃t u v,h.get? a=some {cls:= .type "range",data:= .fields #[.int lo t, .int hi u, .int 1 v]}
 | .frz o u=>h.get? a=some o∧ObjOk H h a u
 | .tbl ps=>h.get? a=some {cls:= .none,data:= .fields ps}
 | .met f x=>h.get? a=some (PySem.W.methodObj (.ref f) (.ref x))
 | .ext φ=>φ h∧(∃o,h.get? a=some o)∧∀h1 h2:Heap,φ h1→(∀o,h1.get? a=some o→h2.get? a=some o)→φ h2
def HOk (H:Hp) (h:Heap):Prop:=∀a o,H a=some o→ObjOk P w H h a o
end
section
variable {P : Program} {w : World} {H H' : Hp} {h h' : Heap} {a : Addr} {o : HO}
theorem ObjOk.lt (x:ObjOk P w H h a o):a<h.objs.size:=by
 cases o with
 |lst xs=>obtain⟨_,_,_,_,e⟩:=x;exact Heap.lt_size e
 |tup xs=>obtain⟨_,_,_,p⟩:=x;exact p.lt
 |dK kvs=>obtain⟨_,_,_,_,o,_,_,e,_⟩:=x;exact Heap.lt_size e
 |dT kvs=>obtain⟨_,_,_,_,o,_,_,e,_⟩:=x;exact Heap.lt_size e
 |set S n=>obtain⟨o,_,_,_,e,_⟩:=x;exact Heap.lt_size e
 |ins C dx fs=>obtain⟨_,_,_,e,_⟩:=x;exact Heap.lt_size e
 |own y=>obtain⟨_,e⟩:=x;exact Heap.lt_size e
 |xd fs=>obtain⟨_,⟨_,_,_,e,_⟩,_⟩:=x;exact Heap.lt_size e
 |rng lo hi=>obtain⟨_,_,_,e⟩:=x;exact Heap.lt_size e
 |frz ob u=>obtain⟨e,_⟩:=x;exact Heap.lt_size e
 |tbl ps=>exact Heap.lt_size (show h.get? a=some _ from x)
 |met f y=>exact Heap.lt_size (show h.get? a=some _ from x)
 |ext φ=>obtain⟨_,⟨_,e⟩,_⟩:=x;exact Heap.lt_size e
theorem Paired.mapP {α β:Type}{F G:α→β→Prop}:∀{l₁:List α}{l₂:List β},Paired F l₁ l₂→(∀a b,F a b→G a b)→Paired G l₁ l₂
 |_,_, .nil,_=> .nil
 |_,_, .cons r t,f=> .cons (f _ _ r) (Paired.mapP t f)
theorem ObjOk.stay (x:ObjOk P w H h a o) (k:∀b u,(b=a∨H b=some (.own a))→h.get? b=some u→h'.get? b=some u)
 (ho:∀b,H b=some (.own a)→H' b=some (.own a)) (ht:∀b xs,H b=some (.tup xs)→H' b=some (.tup xs)):ObjOk P w H' h' a o:=by
 induction o with
 |lst xs=>obtain⟨z,its,n,r,e⟩:=x;exact⟨z,its,n,r,k _ _ (.inl rfl) e⟩
 |tup xs=>obtain⟨z,its,r,ob,e,c⟩:=x;exact⟨z,its,r,ob,k _ _ (.inl rfl) e,c⟩
 |dK kvs=>obtain⟨z,y,vs,r,ob,es,ep,e,c⟩:=x;exact⟨z,y,vs,r,ob,es,ep,k _ _ (.inl rfl) e,c⟩
 |dT kvs=>
  obtain⟨z,y,xs,r,ob,es,ep,e,c⟩:=x
  exact⟨z,y,xs,Paired.mapP r fun p q z=>⟨z.1,ht _ _ z.2.1,z.2.2⟩,ob,es,ep,k _ _ (.inl rfl) e,c⟩
 |set S n=>obtain⟨ob,es,ep,t,e,c⟩:=x;exact⟨ob,es,ep,t,k _ _ (.inl rfl) e,c⟩
 |ins C dx fs=>
  obtain⟨d,z,ne,e,mA,⟨od,es,ep,e2,c⟩,r⟩:=x
  exact⟨ho _ d,z,ne,k _ _ (.inl rfl) e,mA,⟨od,es,ep,k _ _ (.inr d) e2,c⟩,r⟩
 |own y=>obtain⟨ob,e⟩:=x;exact⟨ob,k _ _ (.inl rfl) e⟩
 |xd fs=>obtain⟨mA,⟨od,es,ep,e,c⟩,r⟩:=x;exact⟨mA,⟨od,es,ep,k _ _ (.inl rfl) e,c⟩,r⟩
 |rng lo hi=>obtain⟨t,u,v,e⟩:=x;exact⟨t,u,v,k _ _ (.inl rfl) e⟩
 |frz ob u ih=>obtain⟨e,q⟩:=x;exact⟨k _ _ (.inl rfl) e,ih q⟩
 |tbl ps=>
  have e:h.get? a=some {cls:= .none,data:= .fields ps}:=x
  show h'.get? a=some {cls:= .none,data:= .fields ps}
  exact k a _ (.inl rfl) e
 |met f y=>
  have e:h.get? a=some (PySem.W.methodObj (.ref f) (.ref y)):=x
  show h'.get? a=some (PySem.W.methodObj (.ref f) (.ref y))
  exact k a _ (.inl rfl) e
 |ext φ=>obtain⟨p,⟨o,e⟩,st⟩:=x;exact⟨st _ _ p fun o q=>k _ _ (.inl rfl) q,⟨o,k _ _ (.inl rfl) e⟩,st⟩
theorem HOk.lt (x:HOk P w H h) (e:H a=some o):a<h.objs.size:=(x a o e).lt
theorem HOk.fresh (x:HOk P w H h) (e:h.objs.size≤a):H a=none:=by
 cases q:H a with
 |none=>rfl
 |some u=>exact absurd (Nat.lt_of_lt_of_le (x.lt q) e) (Nat.lt_irrefl _)
theorem HOk.kept (x:HOk P w H h) (k:∀b u,h.get? b=some u→h'.get? b=some u):HOk P w H h':=fun a o e=>
 (x a o e).stay (fun b u _ q=>k b u q) (fun _ q=>q) fun _ _ q=>q
theorem HOk.laid (x:HOk P w H h) (k:∀b u,h.get? b=some u→h'.get? b=some u) (hp:h.objs.size≤a) (new:ObjOk P w (upd H a o) h' a o):HOk P w (upd H a o) h':=fun b u e=>by
 have hn:=x.fresh hp
 by_cases hb:b=a
 ·subst hb;rw[au] at e;cases e;exact new
 ·rw[aj hb] at e
  exact(x b u e).stay (fun c v _ q=>k c v q) (fun c q=>by rw[aj (aM q hn)];exact q) fun c xs q=>by rw[aj (aM q hn)];exact q
end
def Rd (H:Hp) (a:Addr) (u:HO):Prop:=H a=some u∨∃o,H a=some (.frz o u)
theorem Rd.ok {P:Program}{w:World}{H:Hp}{h:Heap}{a:Addr}{u:HO}(r:Rd H a u) (x:HOk P w H h):ObjOk P w H h a u:=by
 rcases r with r | ⟨o,r⟩
 ·exact x a u r
 ·obtain⟨_,q⟩:=x a _ r
  exact q
def Mut:Option HO→Prop
 |some (.lst _)=>True
 |some (.dK _)=>True
 |some (.dT _)=>True
 |some (.set _ _)=>True
 |some (.ins _ _ _)=>True
 |some (.ext _)=>True
 |_=>False
section
variable {P : Program} {w : World} {H : Hp} {h h' : Heap} {x e : Addr} {o' : HO}
theorem HOk.write (ok:HOk P w H h) (mu:Mut (H x)) (he:e=x∨H e=some (.own x)) (k:∀b u,b≠e→h.get? b=some u→h'.get? b=some u) (heo:∃u,h'.get? e=some u)
 (new:ObjOk P w (upd H x o') h' x o'):HOk P w (upd H x o') h':=fun b u q=>by
 have nown:∀c y,H c=some (.own y)→c≠x:=fun c y r z=>by subst z;rw[r] at mu;exact mu
 have ntup:∀c xs,H c=some (.tup xs)→c≠x:=fun c xs r z=>by subst z;rw[r] at mu;exact mu
 by_cases hb:b=x
 ·subst hb;rw[au] at q;cases q;exact new
 ·rw[aj hb] at q
  by_cases hbe:b=e
  ·have q':H b=some (.own x):=by
    rcases he with z | z
    ·exact absurd (hbe.trans z) hb
    ·rw[hbe];exact z
   rw[q] at q';cases q'
   obtain⟨v,hv⟩:=heo
   exact⟨v,by rw[hbe];exact hv⟩
  ·refine(ok b u q).stay (fun c v hc r=>k c v ?_ r) (fun c r=>by rw[aj (nown c b r)];exact r) fun c xs r=>by rw[aj (ntup c xs r)];exact r
   rcases hc with rfl | hc
   ·exact hbe
   ·rintro rfl
    rcases he with z | z
    ·exact nown c b hc z
    ·rw[hc] at z;cases z;exact hb rfl
end
structure Un (fs ex:List Addr) (H H':Hp) (h h':Heap):Prop where
 keep:∀b o,h.get? b=some o→H b=none→b∉fs→b∉ex→h'.get? b=some o
 slot:∀b o,h.get? b=some o→H b=none→b∈fs→b∉ex→∃sl,h'.get? b=some {o with slots:=sl}
 free:∀b o,h.get? b=some o→H b=none→b∉ex→H' b=none
 there:∀b o,h.get? b=some o→b∉ex→∃o',h'.get? b=some o'
 tups:∀b xs,H b=some (.tup xs)→H' b=some (.tup xs)
 frzs:∀b o u,H b=some (.frz o u)→H' b=some (.frz o u)
 tbls:∀b ps,H b=some (.tbl ps)→∃more,H' b=some (.tbl (ps++more))
section
variable {fs fs' ex ex' : List Addr} {H H1 H2 : Hp} {h h1 h2 h' : Heap} {a x e : Addr} {o : HO}
theorem Un.any (u:Un fs ex H H1 h h1) {b:Addr}{ob:Obj}(q:h.get? b=some ob) (n:H b=none) (hx:b∉ex):∃sl,h1.get? b=some {ob with slots:=sl}:=by
 by_cases hb:b∈fs
 ·exact u.slot b ob q n hb hx
 ·exact⟨ob.slots,u.keep b ob q n hb hx⟩
theorem Un.trans (a:Un fs ex H H1 h h1) (b:Un fs ex H1 H2 h1 h2):Un fs ex H H2 h h2 where
 keep:=fun c ob q n hc hx=>b.keep c ob (a.keep c ob q n hc hx) (a.free c ob q n hx) hc hx
 slot:=fun c ob q n hc hx=>by
  obtain⟨sl,e1⟩:=a.slot c ob q n hc hx
  obtain⟨sl',e2⟩:=b.slot c _ e1 (a.free c ob q n hx) hc hx
  exact⟨sl',e2⟩
 free:=fun c ob q n hx=>by
  obtain⟨o',e1⟩:=a.there c ob q hx
  exact b.free c o' e1 (a.free c ob q n hx) hx
 there:=fun c ob q hx=>by
  obtain⟨o',e1⟩:=a.there c ob q hx
  exact b.there c o' e1 hx
 tups:=fun c xs q=>b.tups c xs (a.tups c xs q)
 frzs:=fun c ob xs q=>b.frzs c ob xs (a.frzs c ob xs q)
 tbls:=fun c ps q=>by
  obtain⟨m1,e1⟩:=a.tbls c ps q
  obtain⟨m2,e2⟩:=b.tbls c _ e1
  exact⟨m1++m2,by rw[e2,Array.append_assoc]⟩
theorem Un.kept (k:∀b u,h.get? b=some u→h'.get? b=some u):Un fs ex H H h h':=
 ⟨fun b ob q _ _ _=>k b ob q,fun b ob q _ _ _=>⟨ob.slots,k b ob q⟩,fun _ _ _ n _=>n,fun b ob q _=>⟨ob,k b ob q⟩,fun _ _ q=>q,fun _ _ _ q=>q,fun _ ps q=>⟨#[],by rw[q];simp⟩⟩
theorem Un.refl:Un fs ex H H h h:=Un.kept fun _ _ q=>q
theorem Un.laid (k:∀b u,h.get? b=some u→h'.get? b=some u) (hp:h.objs.size≤a) (hn:H a=none):Un fs ex H (upd H a o) h h' where
 keep:=fun b u q _ _ _=>k b u q
 slot:=fun b u q _ _ _=>⟨u.slots,k b u q⟩
 free:=fun b u q n _=>by rw[aj (Nat.ne_of_lt (Nat.lt_of_lt_of_le (Heap.lt_size q) hp))];exact n
 there:=fun b u q _=>⟨u,k b u q⟩
 tups:=fun b xs q=>by rw[aj (aM q hn)];exact q
 frzs:=fun b u xs q=>by rw[aj (aM q hn)];exact q
 tbls:=fun b ps q=>⟨#[],by rw[aj (aM q hn),q];simp⟩
theorem Un.write (mu:Mut (H x)) (he:e=x∨H e=some (.own x)) (k:∀b u,b≠e→h.get? b=some u→h'.get? b=some u) (heo:∃u,h'.get? e=some u):Un fs ex H (upd H x o) h h':=by
 have hx:∀b,H b=none→b≠x:=fun b n z=>by subst z;rw[n] at mu;exact mu
 have hb:∀b,H b=none→b≠e:=fun b n z=>by
  subst z
  rcases he with r | r
  ·exact hx b n r
  ·rw[n] at r;cases r
 have hm:∀b u,H b=some u→¬Mut (some u)→b≠x:=fun b u q nm z=>by subst z;rw[q] at mu;exact nm mu
 refine⟨fun b u q n _ _=>k b u (hb b n) q,fun b u q n _ _=>⟨u.slots,k b u (hb b n) q⟩,fun b u q n _=>by rw[aj (hx b n)];exact n,fun b u q _=>?_,
  fun b xs q=>by rw[aj (hm b _ q fun z=>z)];exact q,fun b u xs q=>by rw[aj (hm b _ q fun z=>z)];exact q,fun b ps q=>⟨#[],by rw[aj (hm b _ q fun z=>z),q];simp⟩⟩
 by_cases hbe:b=e
 ·subst hbe;exact heo
 ·exact⟨u,k b u hbe q⟩
end
def trk (h:Heap) (H:Hp):List Addr:=(List.range h.objs.size).filter fun a=>(H a).isSome
def gU (h:Heap) (H:Hp):Heap:=PySem.W.hideAll h (trk h H)
theorem kQ (h:Heap) (H:Hp):(gU h H).objs.size=h.objs.size:=PySem.W.hideAll_size _ _
theorem lO {h:Heap}{H:Hp}{b:Addr}{o:Obj}(e:h.get? b=some o) (n:H b=none):(gU h H).get? b=some o:=
 PySem.W.hideAll_get _ e fun hm=>by
  have q:(H b).isSome=true:=(List.mem_filter.mp hm).2
  rw[n] at q;simp at q
theorem nu {h:Heap}{H:Hp}{b:Addr}{o:Obj}(e:(gU h H).get? b=some o):h.get? b=some o∧H b=none:=by
 have e':h.get? b=some o:=PySem.W.of_hideAll (trk h H) e
 refine⟨e',?_⟩
 cases q:H b with
 |none=>rfl
 |some x=>
  have hm:b∈trk h H:=List.mem_filter.mpr ⟨List.mem_range.mpr (Heap.lt_size e'),by simp[q]⟩
  have z:(gU h H).get? b=none:=PySem.W.hideAll_none (trk h H) hm
  rw[z] at e;cases e
def mU (g h:Heap) (L:Addr):List (Addr×Obj):=(List.range h.objs.size).filterMap fun a=>if a=L∨(g.get? a).isSome=true then none else(h.get? a).map fun o=>(a,o)
def rest (g h:Heap) (L d:Addr):List (Addr×Obj):=(mU g h L).filter fun p=>decide (p.1≠d)
end L2
namespace L2
open PySem PySem.Spec PyProof.Rows
structure Mod (K:PySem.W.Frag) (mg:Str→Option Value) (base:Heap):Prop where
 kin:K.In base
 glob:base.Ns mainGlobals mg
 blt:∃mb,base.Ns builtinsNs mb∧∀x:Str,x≠"__name__"→mb x=bootBuiltins x
 nolimit:base.NoLimit
structure Cx where
 prog:Program
 w:World
 K:PySem.W.Frag
 mg:Str→Option Value
 base:Heap
 A:Around
 N:List Str
 s₀:Shared
 H₀:Hp
 env:Env
 outer:List Env
 stack:List Env
 ex:List Addr
 fn:Str→Bool
 calm:Bool
 pn:List (Addr×Obj)
 xe:Value→Shared→Prop
def frs (l:List Env):List Addr:=l.filterMap (·.frame)
abbrev Cx.fs (X:Cx):List Addr:=frs X.outer
def Vis (sc:Scope) (x:Str):Prop:=sc.names.lookup x=some .local∨sc.names.lookup x=some .cell∨sc.names.lookup x=some .free
def Loc (sc:Scope) (x:Str):Prop:=sc.names.lookup x=some .local∨sc.names.lookup x=some .cell
def Look (env:Env) (h:Heap) (m:Str→Option Value) (x:Str) (u:Value):Prop:=
 (env.kindOf x=some .local∧m x=some u)∨((env.kindOf x=some .cell∨env.kindOf x=some .free)∧∃c,env.cells.lookup x=some c∧h.IsCell c (some u))
structure Cx.Ok (X:Cx):Prop where
 mod:Mod X.K X.mg X.base
 kind:X.env.scope.kind= .function
 glob:X.env.globals=mainGlobals
 blt:X.env.builtins=builtinsNs
 above:X.s₀.heap.objs.size≤X.env.locals
 inj:∀x y c,X.env.cells.lookup x=some c→X.env.cells.lookup y=some c→x=y
 has:∀x,(X.env.kindOf x=some .cell∨X.env.kindOf x=some .free)→∃c,X.env.cells.lookup x=some c
 cab:∀x c,X.fn x=true→X.env.cells.lookup x=some c→X.s₀.heap.objs.size≤c
 hd:X.calm=true→X.A.handled=none
 frames:X.A.frames=some X.stack
 stk:X.stack=X.outer∨(X.stack=X.env::X.outer∧X.env.frame=some X.env.locals)
 exf:∀b∈X.ex,b≠X.env.locals∧∀x c,X.env.cells.lookup x=some c→c≠b
 bs:∀b o,X.base.get? b=some o→X.s₀.heap.get? b=some o∧X.H₀ b=none
 bsz:X.base.objs.size≤X.s₀.heap.objs.size
 noex:∀b o,X.base.get? b=some o→b∉X.ex
 exfs:∀b∈X.ex,b∉X.fs
 funs:X.s₀.heap.FunFrames X.base X.outer
 frf:∀b∈X.fs,X.H₀ b=none
structure Inv (X:Cx) (pins:List (Addr×Obj)) (σ:List (Option V)) (H:Hp) (s:Shared):Prop where
 ok:X.Ok
 os:s.os=X.s₀.os
 bare:AllBare s.gens
 base:Un X.fs X.ex X.H₀ H X.s₀.heap s.heap
 loc:∃m,s.heap.Ns X.env.locals m∧∀(i:Nat) (x:Str) (v:V),X.N[i]? =some x→σ[i]? =some (some v)→Vis X.env.scope x→∃u,RelV v u∧Look X.env s.heap m x u
 cell:∀x c,X.env.cells.lookup x=some c→∃v,s.heap.IsCell c v
 free:H X.env.locals=none
 freeC:∀x c,X.env.cells.lookup x=some c→H c=none
 pin:∀p∈X.pn++pins,s.heap.get? p.1=some p.2∧H p.1=none∧p.1≠X.env.locals∧p.1∉X.fs∧∀v,p.2.data≠ .cell v
 hok:HOk X.prog X.w H s.heap
 len:σ.length=X.N.length
section
variable {X : Cx} {pins : List (Addr × Obj)} {σ : List (Option V)} {H H' : Hp} {s : Shared} {h' : Heap}
theorem Cx.Ok.nofr (ok:X.Ok) {b:Addr}{o:Obj}(e:X.base.get? b=some o):b∉X.fs:=fun hb=>by
 have:=(ok.funs.mem hb).1
 rw[e] at this;cases this
theorem Inv.bs (I:Inv X pins σ H s):∀b o,X.base.get? b=some o→s.heap.get? b=some o∧H b=none:=fun b o e=>
 ⟨I.base.keep b o (I.ok.bs b o e).1 (I.ok.bs b o e).2 (I.ok.nofr e) (I.ok.noex b o e),I.base.free b o (I.ok.bs b o e).1 (I.ok.bs b o e).2 (I.ok.noex b o e)⟩
theorem Inv.bk (I:Inv X pins σ H s):∀b o,X.base.get? b=some o→s.heap.get? b=some o:=fun b o e=>(I.bs b o e).1
theorem Inv.mod (I:Inv X pins σ H s):Mod X.K X.mg X.base:=I.ok.mod
theorem Inv.kIn (I:Inv X pins σ H s):X.K.In s.heap:=I.ok.mod.kin.keeps I.bk
theorem Inv.nolimit (I:Inv X pins σ H s):s.heap.NoLimit:=I.ok.mod.nolimit.keeps I.bk
theorem Inv.lt (I:Inv X pins σ H s):X.env.locals<s.heap.objs.size:=let ⟨_,hn,_⟩:=I.loc;hn.lt
theorem Inv.sz (I:Inv X pins σ H s):X.s₀.heap.objs.size≤s.heap.objs.size:=Nat.le_trans I.ok.above (Nat.le_of_lt I.lt)
theorem Inv.nofs (I:Inv X pins σ H s) {a:Addr}(h:s.heap.objs.size≤a):a∉X.fs:=fun hb=>by
 obtain⟨_,o,ho,_⟩:=I.ok.funs.mem hb
 exact absurd (Nat.lt_of_lt_of_le (Heap.lt_size ho) (Nat.le_trans I.sz h)) (Nat.lt_irrefl _)
theorem Inv.cne (I:Inv X pins σ H s):∀x c,X.env.cells.lookup x=some c→c≠X.env.locals:=fun x c e z=>by
 obtain⟨v,o,ho,hd⟩:=I.cell x c e
 obtain⟨m,⟨o',es,ep,ho',hd',_⟩,_⟩:=I.loc
 rw[z,ho'] at ho;cases ho;rw[hd'] at hd;cases hd
theorem Inv.funs (I:Inv X pins σ H s):s.heap.FunFrames X.base X.outer:=by
 have all:∀(l:List Env),(∀b∈frs l,b∈X.fs)→X.s₀.heap.FunFrames X.base l→s.heap.FunFrames X.base l:=by
  intro l
  induction l with
  |nil=>intro _ _;trivial
  |cons env r ih=>
   intro hs hl
   obtain⟨hk,⟨L,o,hf,hn,ho,hd⟩,hr⟩:=hl
   have hL:L∈X.fs:=hs L (by unfold frs;rw[List.filterMap_cons,hf];exact List.mem_cons_self)
   obtain⟨sl,e⟩:=I.base.slot L o ho (I.ok.frf L hL) hL fun z=>I.ok.exfs L z hL
   exact⟨hk,⟨L,_,hf,hn,e,hd⟩,ih (fun b hb=>hs b (by unfold frs;rw[List.filterMap_cons,hf];exact List.mem_cons_of_mem _ hb)) hr⟩
 exact all X.outer (fun _ hb=>hb) I.ok.funs
theorem Inv.stack (I:Inv X pins σ H s):s.heap.FunFrames X.base X.stack:=by
 rcases I.ok.stk with e | ⟨e,hf⟩
 ·rw[e];exact I.funs
 ·rw[e]
  obtain⟨m,hn,_⟩:=I.loc
  refine .cons (by rw[I.ok.kind];decide) hf hn ?_ I.funs
  exact Heap.get?_none_of_le (Nat.le_trans I.ok.bsz I.ok.above)
theorem Inv.stkSub (I:Inv X pins σ H s):∀b∈frs X.stack,b∈X.env.locals::X.fs:=fun b hb=>by
 rcases I.ok.stk with e | ⟨e,hf⟩
 ·rw[e] at hb;exact List.mem_cons_of_mem _ hb
 ·rw[e] at hb
  unfold frs at hb
  rw[List.filterMap_cons,hf] at hb
  exact hb
theorem Inv.stkFree (I:Inv X pins σ H s):∀b∈frs X.stack,H b=none:=fun b hb=>by
 rcases List.mem_cons.mp (I.stkSub b hb) with e | hb
 ·rw[e];exact I.free
 ·obtain⟨_,o,ho,_⟩:=I.ok.funs.mem hb
  exact I.base.free b o ho (I.ok.frf b hb) fun z=>I.ok.exfs b z hb
theorem Inv.step {g':Array GenState}{t':Nat}{d':Drawn}{ch:List Addr}(I:Inv X pins σ H s)
 (hch:∀b∈ch,(b∈X.ex∨X.s₀.heap.objs.size≤b)∧b≠X.env.locals∧(∀x c,X.env.cells.lookup x=some c→c≠b)∧∀p∈X.pn++pins,p.1≠b)
 (keep:∀b o,b≠X.env.locals→b∉X.fs→b∉ch→s.heap.get? b=some o→H b=none→h'.get? b=some o)
 (slot:∀b o,b≠X.env.locals→b∈X.fs→b∉ch→s.heap.get? b=some o→H b=none→∃sl,h'.get? b=some {o with slots:=sl}) (free:∀b o,b∉ch→s.heap.get? b=some o→H b=none→H' b=none)
 (there:∀b o,b∉ch→s.heap.get? b=some o→∃o',h'.get? b=some o')
 (tups:∀b xs,H b=some (.tup xs)→H' b=some (.tup xs)) (frzs:∀b o u,H b=some (.frz o u)→H' b=some (.frz o u)) (tbls:∀b ps,H b=some (.tbl ps)→∃more,H' b=some (.tbl (ps++more)))
 (ns:∀m,s.heap.Ns X.env.locals m→h'.Ns X.env.locals m) (hok:HOk X.prog X.w H' h') (hg:AllBare g'):
 Inv X pins σ H' {s with heap:=h',gens:=g',drawn:=d',toks:=t'}:=by
 have neL:∀b o,X.s₀.heap.get? b=some o→b≠X.env.locals:=fun b o e=>Nat.ne_of_lt (Nat.lt_of_lt_of_le (Heap.lt_size e) I.ok.above)
 have neC:∀b o,X.s₀.heap.get? b=some o→b∉X.ex→b∉ch:=fun b o e hx hb=>by
  rcases(hch b hb).1 with z | z
  ·exact hx z
  ·exact absurd (Nat.lt_of_lt_of_le (Heap.lt_size e) z) (Nat.lt_irrefl _)
 have cellK:∀x c,X.env.cells.lookup x=some c→∀v,s.heap.IsCell c v→h'.IsCell c v:=fun x c e v ⟨o,ho,hd⟩=>by
  have nch:c∉ch:=fun z=>(hch c z).2.2.1 x c e rfl
  by_cases hc:c∈X.fs
  ·obtain⟨sl,q⟩:=slot c o (I.cne x c e) hc nch ho (I.freeC x c e)
   exact⟨_,q,hd⟩
  ·exact⟨o,keep c o (I.cne x c e) hc nch ho (I.freeC x c e),hd⟩
 refine⟨I.ok,I.os,hg,⟨fun b o e n hb hx=>?_,fun b o e n hb hx=>?_,fun b o e n hx=>?_,fun b o e hx=>?_,fun b xs e=>tups b xs (I.base.tups b xs e),fun b o xs e=>frzs b o xs (I.base.frzs b o xs e),fun b ps e=>?_⟩,?_,fun x c e=>?_,?_,fun x c e=>?_,fun p hp=>?_,hok,I.len⟩
 ·exact keep b o (neL b o e) hb (neC b o e hx) (I.base.keep b o e n hb hx) (I.base.free b o e n hx)
 ·obtain⟨sl,e1⟩:=I.base.slot b o e n hb hx
  obtain⟨sl',e2⟩:=slot b _ (neL b o e) hb (neC b o e hx) e1 (I.base.free b o e n hx)
  exact⟨sl',e2⟩
 ·obtain⟨o',e1⟩:=I.base.there b o e hx
  exact free b o' (neC b o e hx) e1 (I.base.free b o e n hx)
 ·obtain⟨o',e1⟩:=I.base.there b o e hx
  exact there b o' (neC b o e hx) e1
 ·obtain⟨m1,e1⟩:=I.base.tbls b ps e
  obtain⟨m2,e2⟩:=tbls b _ e1
  exact⟨m1++m2,by rw[e2,Array.append_assoc]⟩
 ·obtain⟨m,hn,hl⟩:=I.loc
  refine⟨m,ns m hn,fun i x v e1 e2 e3=>?_⟩
  obtain⟨u,r,l⟩:=hl i x v e1 e2 e3
  refine⟨u,r,?_⟩
  rcases l with l | ⟨k,c,e,z⟩
  ·exact .inl l
  ·exact .inr ⟨k,c,e,cellK x c e _ z⟩
 ·obtain⟨v,z⟩:=I.cell x c e
  exact⟨v,cellK x c e v z⟩
 ·obtain⟨m,⟨o,_,_,ho,_⟩,_⟩:=I.loc
  exact free _ o (fun z=>(hch _ z).2.1 rfl) ho I.free
 ·obtain⟨v,o,ho,hd⟩:=I.cell x c e
  exact free c o (fun z=>(hch c z).2.2.1 x c e rfl) ho (I.freeC x c e)
 ·obtain⟨e,n,ne,nf,d⟩:=I.pin p hp
  have nch:p.1∉ch:=fun z=>(hch p.1 z).2.2.2 p hp rfl
  exact⟨keep p.1 p.2 ne nf nch e n,free p.1 p.2 nch e n,ne,nf,d⟩
theorem Inv.un {t':Nat}(I:Inv X pins σ H s) (u:Un X.fs [] H H' s.heap h') (hok:HOk X.prog X.w H' h'):Inv X pins σ H' {s with heap:=h',toks:=t'}:=by
 obtain⟨m,⟨o,es,ep,ho,r⟩,_⟩:=id I.loc
 obtain⟨sl,hL⟩:=u.any ho I.free (by simp)
 exact I.step (g':=s.gens) (d':=s.drawn) (ch:=[]) (fun _ z=>nomatch z) (fun b o _ hb _ e n=>u.keep b o e n hb (by simp)) (fun b o _ hb _ e n=>u.slot b o e n hb (by simp)) (fun b o _ e n=>u.free b o e n (by simp)) (fun b o _ e=>u.there b o e (by simp)) u.tups u.frzs u.tbls (fun m' hm=>by
  obtain⟨o',es',ep',ho',r'⟩:=hm
  rw[ho] at ho';cases ho'
  exact⟨_,es',ep',hL,r'⟩) hok I.bare
theorem Inv.call {g':Array GenState}{t':Nat}{d':Drawn}{ch:List Addr}(I:Inv X pins σ H s) (u:Un (frs X.stack) ch H H' s.heap h') (hok:HOk X.prog X.w H' h') (hg:AllBare g')
 (hch:∀b∈ch,(b∈X.ex∨X.s₀.heap.objs.size≤b)∧b≠X.env.locals∧(∀x c,X.env.cells.lookup x=some c→c≠b)∧∀p∈X.pn++pins,p.1≠b):
 Inv X pins σ H' {s with heap:=h',gens:=g',drawn:=d',toks:=t'}:=by
 obtain⟨m,⟨o,es,ep,ho,r⟩,_⟩:=id I.loc
 obtain⟨sl,hL⟩:=u.any ho I.free fun z=>(hch _ z).2.1 rfl
 exact I.step (ch:=ch) hch (fun b o hL hb hc e n=>u.keep b o e n (fun z=>(List.mem_cons.mp (I.stkSub b z)).elim hL hb) hc) (fun b o _ _ hc e n=>u.any e n hc) (fun b o hc e n=>u.free b o e n hc) (fun b o hc e=>u.there b o e hc) u.tups u.frzs u.tbls (fun m' hm=>by
  obtain⟨o',es',ep',ho',r'⟩:=hm
  rw[ho] at ho';cases ho'
  exact⟨_,es',ep',hL,r'⟩) hok hg
theorem Inv.turned {t':Nat}{it:Addr}(I:Inv X pins σ H s) (k:∀b o,b≠it→s.heap.get? b=some o→h'.get? b=some o) (hn:H it=none) (hL:it≠X.env.locals)
 (h1:it∈X.ex∨X.s₀.heap.objs.size≤it) (h2:∀x c,X.env.cells.lookup x=some c→c≠it) (h3:∀p∈X.pn++pins,p.1≠it):Inv X pins σ H {s with heap:=h',toks:=t'}:=by
 have nit:∀b u,H b=some u→b≠it:=fun b u e z=>by rw[z,hn] at e;cases e
 refine I.step (g':=s.gens) (d':=s.drawn) (ch:=[it]) (fun b hb=>?_) (fun b o _ _ hc e _=>k b o (fun z=>hc (by simp[z])) e) (fun b o _ _ hc e _=>⟨o.slots,k b o (fun z=>hc (by simp[z])) e⟩) (fun _ _ _ _ n=>n)
  (fun b o hc e=>⟨o,k b o (fun z=>hc (by simp[z])) e⟩) (fun _ _ e=>e) (fun _ _ _ e=>e) (fun b ps e=>⟨#[],by rw[e];simp⟩) (fun m hm=>?_) (fun b u e=>?_) I.bare
 ·have e:b=it:=by simpa using hb
  subst e
  exact⟨h1,hL,h2,h3⟩
 ·obtain⟨o,es,ep,ho,r⟩:=hm
  exact⟨o,es,ep,k _ o (Ne.symm hL) ho,r⟩
 ·refine(I.hok b u e).stay (fun c v hc q=>k c v ?_ q) (fun _ q=>q) fun _ _ q=>q
  rcases hc with z | z
  ·rw[z];exact nit b u e
  ·exact nit c _ z
theorem Inv.tok (I:Inv X pins σ H s) (t:Nat):Inv X pins σ H {s with toks:=t}:=I.un (h':=s.heap) (t':=t) Un.refl I.hok
theorem Inv.kept {t':Nat}(I:Inv X pins σ H s) (k:∀b u,s.heap.get? b=some u→h'.get? b=some u):Inv X pins σ H {s with heap:=h',toks:=t'}:=I.un (Un.kept k) (I.hok.kept k)
theorem Inv.laid {a:Addr}{o:HO}{t':Nat}(I:Inv X pins σ H s) (k:∀b u,s.heap.get? b=some u→h'.get? b=some u) (hp:s.heap.objs.size≤a) (new:ObjOk X.prog X.w (upd H a o) h' a o):
 Inv X pins σ (upd H a o) {s with heap:=h',toks:=t'}:=I.un (Un.laid k hp (I.hok.fresh hp)) (I.hok.laid k hp new)
theorem Inv.write {x e:Addr}{o:HO}{t':Nat}(I:Inv X pins σ H s) (mu:Mut (H x)) (he:e=x∨H e=some (.own x)) (k:∀b u,b≠e→s.heap.get? b=some u→h'.get? b=some u) (heo:∃u,h'.get? e=some u)
 (new:ObjOk X.prog X.w (upd H x o) h' x o):Inv X pins σ (upd H x o) {s with heap:=h',toks:=t'}:=I.un (Un.write mu he k heo) (I.hok.write mu he k heo new)
theorem Inv.pins_of {pins':List (Addr×Obj)}(I:Inv X pins σ H s) (h:∀p∈pins',s.heap.get? p.1=some p.2∧H p.1=none∧p.1≠X.env.locals∧p.1∉X.fs∧∀v,p.2.data≠ .cell v):Inv X pins' σ H s:=
 ⟨I.ok,I.os,I.bare,I.base,I.loc,I.cell,I.free,I.freeC,fun p hp=>(List.mem_append.mp hp).elim (fun z=>I.pin p (List.mem_append_left _ z)) (h p),I.hok,I.len⟩
theorem i6 {N:List Str}(hN:N.Nodup) {i j:Nat}{x:Str}(a:N[i]? =some x) (b:N[j]? =some x):i=j:=by
 obtain⟨h1,e1⟩:=List.getElem?_eq_some_iff.mp a
 obtain⟨h2,e2⟩:=List.getElem?_eq_some_iff.mp b
 exact(List.getElem_inj hN).mp (e1.trans e2.symm)
theorem ec {M:Model}{A:Around}{E:Value→Shared→Prop}{i:Nat}{x:Str}{v:V}{u:Value}{Q:Unit→Shared→Prop}(I:Inv X pins σ H s) (hN:X.N.Nodup) (hi:X.N[i]? =some x) (hx:Loc X.env.scope x) (r:RelV v u)
 (h:∀s',Inv X pins (σ.set i (some v)) H s'→(∃a,Heap.SameBut a s.heap s'.heap∧(a=X.env.locals∨X.env.cells.lookup x=some a))→Q () s') (hf:X.fn x=true∨X.env.scope.names.lookup x=some .local:=by first | exact .inl rfl | exact .inr rfl | assumption):wpAny M A (storeName X.env x u) Q E s:=by
 obtain⟨m,hn,hl⟩:=id I.loc
 have hcls:(X.env.scope.kind== .class||(X.env.scope.kind== .module&&X.env.locals !=X.env.globals))=false:=by rw[I.ok.kind];rfl
 have hiσ:i<σ.length:=by rw[I.len];exact(List.getElem?_eq_some_iff.mp hi).1
 have cne:=I.cne
 have tracked:∀{a:Addr}{h':Heap},(∃o,s.heap.get? a=some o∧H a=none)→Heap.SameBut a s.heap h'→HOk X.prog X.w H h':=fun {a h'} ha hs b ob e=>by
  obtain⟨_,_,hfree⟩:=ha
  refine(I.hok b ob e).stay (fun c w' hc q=>(hs.2 c ?_).trans q) (fun _ q=>q) fun _ _ q=>q
  rintro rfl
  rcases hc with rfl | hc
  ·rw[hfree] at e;cases e
  ·rw[hfree] at hc;cases hc
 rcases hx with hk | hk
 ·refine wpAny_storeName_local hk hn (fun h' hn' hs=>?_) hcls
  obtain⟨oL,_,_,hoL,_⟩:=id hn
  refine h _ ⟨I.ok,I.os,I.bare,⟨fun b o e n hb hx=>?_,fun b o e n hb hx=>?_,I.base.free,fun b o e hx=>?_,I.base.tups,I.base.frzs,I.base.tbls⟩,⟨_,hn',fun j y v' e1 e2 e3=>?_⟩,fun y c e=>?_,I.free,I.freeC,fun p hp=>?_,tracked ⟨oL,hoL,I.free⟩ hs,by simpa using I.len⟩ ⟨_,hs, .inl rfl⟩
  ·exact(hs.2 b (Nat.ne_of_lt (Nat.lt_of_lt_of_le (Heap.lt_size e) I.ok.above))).trans (I.base.keep b o e n hb hx)
  ·obtain⟨sl,e1⟩:=I.base.slot b o e n hb hx
   exact⟨sl,(hs.2 b (Nat.ne_of_lt (Nat.lt_of_lt_of_le (Heap.lt_size e) I.ok.above))).trans e1⟩
  ·obtain⟨o',e1⟩:=I.base.there b o e hx
   exact⟨o',(hs.2 b (Nat.ne_of_lt (Nat.lt_of_lt_of_le (Heap.lt_size e) I.ok.above))).trans e1⟩
  ·by_cases hj:j=i
   ·subst hj
    rw[hi] at e1;cases e1
    rw[List.getElem?_set_self hiσ] at e2
    cases e2
    exact⟨u,r, .inl ⟨hk,by simp⟩⟩
   ·rw[List.getElem?_set_ne (Ne.symm hj)] at e2
    obtain⟨u',r',q⟩:=hl j y v' e1 e2 e3
    refine⟨u',r',?_⟩
    rcases q with⟨k,e⟩ | ⟨k,c,e,z⟩
    ·refine .inl ⟨k,?_⟩
     have:y≠x:=fun e=>hj (i6 hN e1 (e▸hi))
     simp[this,e]
    ·exact .inr ⟨k,c,e,z.sameBut hs (cne y c e)⟩
  ·obtain⟨w',z⟩:=I.cell y c e
   exact⟨w',z.sameBut hs (cne y c e)⟩
  ·obtain⟨e,n,ne,nf,d⟩:=I.pin p hp
   exact⟨(hs.2 p.1 ne).trans e,n,ne,nf,d⟩
 ·have hfn:X.fn x=true:=by
   rcases hf with z | z
   ·exact z
   ·rw[z] at hk;cases hk
  obtain⟨c,hc⟩:=I.ok.has x (.inl hk)
  obtain⟨w',z⟩:=I.cell x c hc
  refine wpAny_storeName_cell I.ok.kind hk hc z (fun h' hc' hs=>?_)
  obtain⟨oc,hoc,hocd⟩:=id z
  refine h {s with heap:=h'} ⟨I.ok,I.os,I.bare,⟨fun b o e n hb hx=>?_,fun b o e n hb hx=>?_,I.base.free,fun b o e hx=>?_,I.base.tups,I.base.frzs,I.base.tbls⟩,⟨m,hn.sameBut hs (Ne.symm (cne x c hc)),fun j y v' e1 e2 e3=>?_⟩,fun y c' e=>?_,I.free,I.freeC,fun p hp=>?_,tracked ⟨oc,hoc,I.freeC x c hc⟩ hs,by simpa using I.len⟩ ⟨c,hs, .inr hc⟩
  ·exact(hs.2 b (Nat.ne_of_lt (Nat.lt_of_lt_of_le (Heap.lt_size e) (I.ok.cab x c hfn hc)))).trans (I.base.keep b o e n hb hx)
  ·obtain⟨sl,e1⟩:=I.base.slot b o e n hb hx
   exact⟨sl,(hs.2 b (Nat.ne_of_lt (Nat.lt_of_lt_of_le (Heap.lt_size e) (I.ok.cab x c hfn hc)))).trans e1⟩
  ·obtain⟨o',e1⟩:=I.base.there b o e hx
   exact⟨o',(hs.2 b (Nat.ne_of_lt (Nat.lt_of_lt_of_le (Heap.lt_size e) (I.ok.cab x c hfn hc)))).trans e1⟩
  ·by_cases hj:j=i
   ·subst hj
    rw[hi] at e1;cases e1
    rw[List.getElem?_set_self hiσ] at e2
    cases e2
    exact⟨u,r, .inr ⟨.inl hk,c,hc,hc'⟩⟩
   ·rw[List.getElem?_set_ne (Ne.symm hj)] at e2
    obtain⟨u',r',q⟩:=hl j y v' e1 e2 e3
    refine⟨u',r',?_⟩
    rcases q with q | ⟨k,c',e,z'⟩
    ·exact .inl q
    ·refine .inr ⟨k,c',e,z'.sameBut hs ?_⟩
     rintro rfl
     exact hj (i6 hN e1 (I.ok.inj _ _ _ e hc▸hi))
  ·by_cases hcc:c'=c
   ·subst hcc;exact⟨_,hc'⟩
   ·obtain⟨w2,z2⟩:=I.cell y c' e
    exact⟨w2,z2.sameBut hs hcc⟩
  ·obtain⟨e,n,ne,nf,d⟩:=I.pin p hp
   refine⟨(hs.2 p.1 ?_).trans e,n,ne,nf,d⟩
   intro q
   rw[q,hoc] at e
   have q':oc=p.2:=Option.some.inj e
   exact d w' (by rw[←q'];exact hocd)
theorem jv {M:Model}{A:Around}{E:Value→Shared→Prop}{i:Nat}{x:Str}{v:V}{u:Value}{Q:Unit→Shared→Prop}(I:Inv X pins σ H s) (hN:X.N.Nodup) (hi:X.N[i]? =some x) (hx:Loc X.env.scope x) (r:RelV v u)
 (h:∀s',Inv X pins (σ.set i (some v)) H s'→Q () s') (hf:X.fn x=true∨X.env.scope.names.lookup x=some .local:=by first | exact .inl rfl | exact .inr rfl | assumption):wpAny M A (storeName X.env x u) Q E s:=
 ec I hN hi hx r (fun s' I' _=>h s' I') hf
theorem Inv.call' {s':Shared}{ch:List Addr}(I:Inv X pins σ H s) (ho:s'.os=s.os) (u:Un (frs X.stack) ch H H' s.heap s'.heap) (hok:HOk X.prog X.w H' s'.heap) (hg:AllBare s'.gens)
 (hch:∀b∈ch,(b∈X.ex∨X.s₀.heap.objs.size≤b)∧b≠X.env.locals∧(∀x c,X.env.cells.lookup x=some c→c≠b)∧∀p∈X.pn++pins,p.1≠b):Inv X pins σ H' s':=by
 obtain⟨h',g',d',t',o'⟩:=s'
 have e:o'=s.os:=ho
 subst e
 exact I.call (g':=g') (t':=t') (d':=d') u hok hg hch
end
abbrev XK:=Value→Option Addr→Hp→Prop
abbrev St:=List (Option V)
abbrev VK:=V→Hp→Prop
abbrev TE:=St→Hp→VK→Prop
abbrev TT:=St→Hp→(Bool→Hp→Prop)→Prop
abbrev TA:=St→Hp→(List V→Hp→Prop)→Prop
structure Ends where
 nx:St→Hp→Prop
 rt:VK
 bk:St→Hp→Prop:=fun _ _=>False
 ct:St→Hp→Prop:=fun _ _=>False
abbrev TS:=Ends→St→Hp→Prop
def EP (X:Cx) (pins:List (Addr×Obj)) (σ:St) (Q:VK) (u:Value) (s':Shared):Prop:=∃v H',Inv X pins σ H' s'∧RelV v u∧Q v H'
def TP (X:Cx) (pins:List (Addr×Obj)) (σ:St) (Q:Bool→Hp→Prop) (b:Bool) (s':Shared):Prop:=∃H',Inv X pins σ H' s'∧Q b H'
def AP (X:Cx) (pins:List (Addr×Obj)) (σ:St) (Q:List V→Hp→Prop) (us:List Value) (s':Shared):Prop:=∃vs H',Inv X pins σ H' s'∧Vals vs us∧Q vs H'
def SP (X:Cx) (pins:List (Addr×Obj)) (D:Ends) (f:Flow) (s':Shared):Prop:=
 match f with
 | .next=>∃σ' H',Inv X pins σ' H' s'∧D.nx σ' H'
 | .brk=>∃σ' H',Inv X pins σ' H' s'∧D.bk σ' H'
 | .cont=>∃σ' H',Inv X pins σ' H' s'∧D.ct σ' H'
 | .ret u=>∃v σ' H',Inv X pins σ' H' s'∧RelV v u∧D.rt v H'
def PE (X:Cx) (e:Expr) (t:TE):Prop:=
 ∀(pins:List (Addr×Obj)) (s:Shared) (σ:St) (H:Hp) (Q:VK),Inv X pins σ H s→t σ H Q→wpAny (model X.prog X.w) X.A (eval e X.env) (EP X pins σ Q) X.xe s
def PT (X:Cx) (e:Expr) (t:TT):Prop:=
 ∀(pins:List (Addr×Obj)) (s:Shared) (σ:St) (H:Hp) (Q:Bool→Hp→Prop),Inv X pins σ H s→t σ H Q→wpAny (model X.prog X.w) X.A (isTrue e X.env (eval e X.env)) (TP X pins σ Q) X.xe s
def PW (X:Cx) (e:Expr) (t:TT):Prop:=
 ∀(whole:Sem Value) (pins:List (Addr×Obj)) (s:Shared) (σ:St) (H:Hp) (Q:Bool→Hp→Prop),Inv X pins σ H s→t σ H Q→wpAny (model X.prog X.w) X.A (isTrue e X.env whole) (TP X pins σ Q) X.xe s
theorem PW.pt {X:Cx}{e:Expr}{t:TT}(h:PW X e t):PT X e t:=h _
def PA (X:Cx) (es:List Expr) (t:TA):Prop:=
 ∀(pos:Pos) (pins:List (Addr×Obj)) (s:Shared) (σ:St) (H:Hp) (Q:List V→Hp→Prop),Inv X pins σ H s→t σ H Q→wpAny (model X.prog X.w) X.A (spliced (backTo pos (starEach es X.env))) (AP X pins σ Q) X.xe s
def PS (X:Cx) (st:Stmt) (t:TS):Prop:=
 ∀(pins:List (Addr×Obj)) (s:Shared) (σ:St) (H:Hp) (D:Ends),Inv X pins σ H s→t D σ H→wpAny (model X.prog X.w) X.A (exec st X.env) (SP X pins D) X.xe s
def PSs (X:Cx) (st:List Stmt) (t:TS):Prop:=
 ∀(pins:List (Addr×Obj)) (s:Shared) (σ:St) (H:Hp) (D:Ends),Inv X pins σ H s→t D σ H→wpAny (model X.prog X.w) X.A (execs st X.env) (SP X pins D) X.xe s
theorem thn {α:Type}{t:Sem α}{Q Q':α→Shared→Prop}{M:Model}{A:Around}{E:Value→Shared→Prop}{s:Shared}(h:wpAny M A t Q E s) (hQ:∀a s,Q a s→Q' a s):wpAny M A t Q' E s:=wpAny_mono h hQ fun _ _ x=>x
end L2
namespace L2
open PySem PySem.Spec PyProof.Rows
section
variable {X : Cx}
theorem bin {a b:Expr}{ta tb:TE}(ha:PE X a ta) (hb:PE X b tb) {pins:List (Addr×Obj)}{s:Shared}{σ:St}{H:Hp}{R:V→V→Hp→Prop}(I:Inv X pins σ H s) (h:ta σ H fun x H1=>tb σ H1 fun y H2=>R x y H2)
 {α:Type}{Q:α→Shared→Prop}{f:Value→Value→Sem α}
 (hf:∀v u s2 x y H2,Inv X pins σ H2 s2→RelV x v→RelV y u→R x y H2→wpAny (model X.prog X.w) X.A (f v u) Q X.xe s2):
 wpAny (model X.prog X.w) X.A (eval a X.env) (fun v s₁=>wpAny (model X.prog X.w) X.A (eval b X.env) (fun u s₂=>wpAny (model X.prog X.w) X.A (f v u) Q X.xe s₂) X.xe s₁) X.xe s:=by
 refine thn (ha pins s σ H _ I h) fun v s1 ⟨x,H1,I1,r1,q1⟩=>?_
 refine thn (hb pins s1 σ H1 _ I1 q1) fun u s2 ⟨y,H2,I2,r2,q2⟩=>?_
 exact hf v u s2 x y H2 I2 r1 r2 q2
def mQ (i:Nat):TE:=fun σ H Q=>∃v,σ[i]? =some (some v)∧Q v H
def tC (v:V):TE:=fun _ H Q=>Q v H
theorem pF {i:Nat}{x:Str}{pos:Pos}(hN:X.N[i]? =some x) (hv:Vis X.env.scope x) (hd:(x==("__debug__":Str))=false:=by decide) (hcd:(x==("__classdict__":Str))=false:=by decide):PE X (.Name x pos) (mQ i):=by
 intro pins s σ H Q I h
 obtain⟨v,e,h⟩:=h
 obtain⟨m,hn,hl⟩:=I.loc
 obtain⟨u,r,l⟩:=hl i x v hN e hv
 have fin:EP X pins σ Q u s:=⟨v,H,I,r,h⟩
 rcases l with⟨hk,hm⟩ | ⟨hk,c,hc,hcell⟩
 ·exact wpAny_Name (wpAny_loadName_local I.ok.kind hk hn hm fin) hd
 ·rcases hk with hk | hk
  ·exact wpAny_Name (wpAny_loadName_cell I.ok.kind hk hc hcell fin) hd
  ·exact wpAny_Name (wpAny_loadName_free I.ok.kind hk hc hcell fin hcd) hd
theorem pw {i j pos}:PE X (.Constant (.int i) j pos) (tC (.int i)):=fun _ _ _ H _ I h=>wpAny_Constant_int ⟨.int i,H,I.tok _,⟨_,rfl⟩,h⟩
theorem qc {b j pos}:PE X (.Constant (.bool b) j pos) (tC (.bl b)):=fun _ _ _ H _ I h=>Constant_bool ⟨.bl b,H,I,rfl,h⟩
theorem pz {j pos}:PE X (.Constant .none j pos) (tC .non):=fun _ _ _ H _ I h=>Constant_none ⟨.non,H,I,rfl,h⟩
theorem pC {x j pos}:PE X (.Constant (.str x) j pos) (tC (.str x)):=fun _ _ _ H _ I h=>Calls.Constant_str ⟨.str x,H,I.tok _,⟨_,rfl⟩,h⟩
def Gl (X:Cx) (x:Str):Prop:=X.env.kindOf x=some .globalImplicit
theorem eV {E:Value→Shared→Prop}{pins:List (Addr×Obj)}{s:Shared}{σ:St}{H:Hp}{x:Str}{u:Value}{pos:Pos}{Q:Value→Shared→Prop}(I:Inv X pins σ H s) (hg:Gl X x) (hm:X.mg x=some u) (h:Q u s)
 (hd:(x==("__debug__":Str))=false:=by decide):wpAny (model X.prog X.w) X.A (eval (.Name x pos) X.env) Q E s:=
 Calls.Name_function_global I.ok.kind hg (Calls.loadGlobal_global (by rw[I.ok.glob];exact I.mod.glob.keeps I.bk) hm h) hd
theorem g0 {E:Value→Shared→Prop}{pins:List (Addr×Obj)}{s:Shared}{σ:St}{H:Hp}{x:Str}{u:Value}{pos:Pos}{Q:Value→Shared→Prop}(I:Inv X pins σ H s) (hg:Gl X x) (hm:X.mg x=none) (hv:bootBuiltins x=some u) (h:Q u s)
 (hn:x≠"__name__":=by decide) (hd:(x==("__debug__":Str))=false:=by decide):wpAny (model X.prog X.w) X.A (eval (.Name x pos) X.env) Q E s:=by
 obtain⟨mb,h1,h2⟩:=I.mod.blt
 exact Calls.Name_function_global I.ok.kind hg (Calls.loadGlobal_builtin (by rw[I.ok.glob];exact I.mod.glob.keeps I.bk) hm (by rw[I.ok.blt];exact h1.keeps I.bk) ((h2 x hn).trans hv) h) hd
theorem nS {x:Str}{v:V}{u:Value}{pos:Pos}(hg:Gl X x) (hm:X.mg x=some u) (r:RelV v u) (hd:(x==("__debug__":Str))=false:=by decide):PE X (.Name x pos) (tC v):=
 fun _ _ _ H _ I h=>eV I hg hm ⟨v,H,I,r,h⟩ hd
theorem nP {x:Str}{v:V}{u:Value}{pos:Pos}(hg:Gl X x) (hm:X.mg x=none) (hv:bootBuiltins x=some u) (r:RelV v u) (hn:x≠"__name__":=by decide) (hd:(x==("__debug__":Str))=false:=by decide):PE X (.Name x pos) (tC v):=
 fun _ _ _ H _ I h=>g0 I hg hm hv ⟨v,H,I,r,h⟩ hn hd
variable {a b : Expr} {ta tb : TE} {pos : Pos}
variable {tA tB' : TT} {rest : List Expr}
def qP (t u:TT):TT:=fun σ H Q=>t σ H fun c H1=>if c=true then u σ H1 Q else Q false H1
def tOr (t u:TT):TT:=fun σ H Q=>t σ H fun c H1=>if c=true then Q true H1 else u σ H1 Q
def qU (t:TT):TT:=fun σ H Q=>t σ H fun c H1=>Q (!c) H1
theorem n4 (ha:PT X a tA):PW X (.BoolOp .And [a] pos) tA:=by
 intro wh pins s σ H Q I h
 refine isTrue_and (thn (ha pins s σ H Q I h) fun c s1 e=>?_)
 cases c with
 |true=>exact isTrue_and_nil e
 |false=>exact e
theorem pM (ha:PT X a tA):PW X (.BoolOp .Or [a] pos) tA:=by
 intro wh pins s σ H Q I h
 refine isTrue_or (thn (ha pins s σ H Q I h) fun c s1 e=>?_)
 cases c with
 |false=>exact isTrue_or_nil e
 |true=>exact e
theorem pL (ha:PT X a tA) (hb:PW X (.BoolOp .And (b::rest) pos) tB'):PW X (.BoolOp .And (a::b::rest) pos) (qP tA tB'):=by
 intro wh pins s σ H Q I h
 refine isTrue_and (thn (ha pins s σ H _ I h) fun c s1 ⟨H1,I1,q1⟩=>?_)
 cases c with
 |true=>exact hb wh pins s1 σ H1 Q I1 q1
 |false=>exact⟨H1,I1,q1⟩
theorem qh (ha:PT X a tA) (hb:PW X (.BoolOp .Or (b::rest) pos) tB'):PW X (.BoolOp .Or (a::b::rest) pos) (tOr tA tB'):=by
 intro wh pins s σ H Q I h
 refine isTrue_or (thn (ha pins s σ H _ I h) fun c s1 ⟨H1,I1,q1⟩=>?_)
 cases c with
 |true=>exact⟨H1,I1,q1⟩
 |false=>exact hb wh pins s1 σ H1 Q I1 q1
theorem pK (ha:PT X a tA):PT X (.UnaryOp .Not a pos) (qU tA):=by
 intro pins s σ H Q I h
 exact isTrue_not (ha pins s σ H (fun c H1=>Q (!c) H1) I h)
def qs (ta tb:TE):TE:=fun σ H Q=>ta σ H fun x H1=>∃c,x= .bl c∧if c=true then tb σ H1 Q else Q (.bl false) H1
theorem pA {op} {t:TE}(h:PE X a t):PE X (.BoolOp op [a] pos) t:=fun pins s σ H Q I hw=>BoolOp_one (h pins s σ H Q I hw)
theorem pq (ha:PE X a ta) (hb:PE X (.BoolOp .And (b::rest) pos) tb):PE X (.BoolOp .And (a::b::rest) pos) (qs ta tb):=by
 intro pins s σ H Q I h
 refine BoolOp_and (thn (ha pins s σ H _ I h) fun v s1 ⟨x,H1,I1,r1,q1⟩=>?_)
 obtain⟨c,rfl,q1⟩:=q1
 cases r1
 refine wpAny_truthy_bool ?_
 cases c with
 |true=>exact hb pins s1 σ H1 Q I1 q1
 |false=>exact⟨.bl false,H1,I1,rfl,q1⟩
def tIf (t:TT) (ta tb:TE):TE:=fun σ H Q=>t σ H fun c H1=>if c=true then ta σ H1 Q else tb σ H1 Q
theorem mj {c:Expr}(hc:PT X c tA) (ha:PE X a ta) (hb:PE X b tb):PE X (.IfExp c a b pos) (tIf tA ta tb):=by
 intro pins s σ H Q I h
 refine wpAny_IfExp (thn (hc pins s σ H _ I h) fun d s1 ⟨H1,I1,q1⟩=>?_)
 cases d with
 |true=>exact ha pins s1 σ H1 Q I1 q1
 |false=>exact hb pins s1 σ H1 Q I1 q1
end
end L2
namespace L2
open PySem PySem.Spec PyProof.Rows
def SqL (K:PySem.W.Frag) (H:Hp) (a:Addr) (xs:List V):Prop:=
 Rd H a (.lst xs)∨
  ∃(o:Obj) (its:Array Value) (n:Nat),K.lookup a=some o∧o.cls= .type "list"∧o.dict=none∧o.data= .seq its n∧its.size≤sizeLine∧Vals xs its.toList
def SqT (K:PySem.W.Frag) (H:Hp) (a:Addr) (xs:List V):Prop:=
 Rd H a (.tup xs)∨
  ∃(o:Obj) (its:Array Value) (n:Nat),K.lookup a=some o∧o.cls= .type "tuple"∧o.data= .seq its n∧its.size≤sizeLine∧Vals xs its.toList
def qD:Value→Option V
 | .none=>some .non
 | .bool b=>some (.bl b)
 | .int i _=>some (.int i)
 | .str x _=>some (.str x)
 | .bytes b _=>some (.byt b)
 | .float b _=>some (.flt b)
 | .ref a=>some (.ref a)
 | .type n=>some (.ty n)
 |_=>none
theorem RelV.abs {x:V}{u:Value}(r:RelV x u):qD u=some x:=by
 cases x with
 |non=>cases r;rfl
 |bl _=>cases r;rfl
 |int _=>obtain⟨t,rfl⟩:=r;rfl
 |str _=>obtain⟨t,rfl⟩:=r;rfl
 |byt _=>obtain⟨t,rfl⟩:=r;rfl
 |flt _=>obtain⟨t,rfl⟩:=r;rfl
 |ref _=>cases r;rfl
 |ty _=>cases r;rfl
theorem RelV.inj {x y:V}{u:Value}(r:RelV x u) (q:RelV y u):x=y:=Option.some.inj (r.abs.symm.trans q.abs)
theorem Vals.inj:∀{xs ys:List V}{us:List Value},Vals xs us→Vals ys us→xs=ys
 |_,_,_, .nil, .nil=>rfl
 |_,_,_, .cons r t, .cons r' t'=>by rw[r.inj r',Vals.inj t t']
section
variable {X : Cx} {pins : List (Addr × Obj)} {σ : St} {H : Hp} {s : Shared} {a : Addr} {xs ys : List V}
theorem SqL.of {K:PySem.W.Frag}(h:H a=some (.lst xs)):SqL K H a xs:= .inl (.inl h)
theorem SqT.of {K:PySem.W.Frag}(h:H a=some (.tup xs)):SqT K H a xs:= .inl (.inl h)
theorem Inv.list (I:Inv X pins σ H s) (h:SqL X.K H a xs):∃its:List Value,Vals xs its∧PlainL s.heap a its.toArray∧xs.length≤sizeLine:=by
 rcases h with h | ⟨o,its,n,hk,hc,hd,hs,hz,r⟩
 ·obtain⟨z,its,n,r,e⟩:=h.ok I.hok
  exact⟨its,r,⟨_,n,e,rfl,rfl,rfl⟩,z⟩
 ·refine⟨its.toList,r,⟨o,n,I.kIn a o hk,hc,hd,by simpa using hs⟩,?_⟩
  have e:=r.length
  simp only[Array.length_toList] at e
  omega
theorem Inv.tuple (I:Inv X pins σ H s) (h:SqT X.K H a xs):∃its:List Value,Vals xs its∧IsTup s.heap a its.toArray∧xs.length≤sizeLine:=by
 rcases h with h | ⟨o,its,n,hk,hc,hs,hz,r⟩
 ·obtain⟨z,its,r,p⟩:=h.ok I.hok
  exact⟨its,r,p,z⟩
 ·refine⟨its.toList,r,⟨o,I.kIn a o hk,hc,n,by simpa using hs⟩,?_⟩
  have e:=r.length
  simp only[Array.length_toList] at e
  omega
theorem Inv.list_inj (I:Inv X pins σ H s) (h:SqL X.K H a xs) (h':SqL X.K H a ys):xs=ys:=by
 obtain⟨its,r,⟨o,n,e,_,_,d⟩,_⟩:=I.list h
 obtain⟨its',r',⟨o',n',e',_,_,d'⟩,_⟩:=I.list h'
 rw[e] at e';cases e'
 rw[d] at d'
 injection d' with d1 _
 have:its=its':=by simpa using congrArg Array.toList d1
 subst this
 exact r.inj r'
theorem Inv.tuple_inj (I:Inv X pins σ H s) (h:SqT X.K H a xs) (h':SqT X.K H a ys):xs=ys:=by
 obtain⟨its,r,⟨o,e,_,n,d⟩,_⟩:=I.tuple h
 obtain⟨its',r',⟨o',e',_,n',d'⟩,_⟩:=I.tuple h'
 rw[e] at e';cases e'
 rw[d] at d'
 injection d' with d1 _
 have:its=its':=by simpa using congrArg Array.toList d1
 subst this
 exact r.inj r'
end
abbrev Cx.wish (X:Cx) (E:Value→Shared→Prop):Cx:={X with xe:=E}
abbrev Cx.nox (X:Cx):Cx:=X.wish fun _ _=>False
theorem Cx.Ok.wish {X:Cx}(ok:X.Ok) (E:Value→Shared→Prop):(X.wish E).Ok:=
 ⟨ok.mod,ok.kind,ok.glob,ok.blt,ok.above,ok.inj,ok.has,ok.cab,ok.hd,ok.frames,ok.stk,ok.exf,ok.bs,ok.bsz,ok.noex,ok.exfs,ok.funs,ok.frf⟩
theorem Cx.Ok.unwish {X:Cx}{E:Value→Shared→Prop}(ok:(X.wish E).Ok):X.Ok:=
 ⟨ok.mod,ok.kind,ok.glob,ok.blt,ok.above,ok.inj,ok.has,ok.cab,ok.hd,ok.frames,ok.stk,ok.exf,ok.bs,ok.bsz,ok.noex,ok.exfs,ok.funs,ok.frf⟩
section
variable {X : Cx} {pins : List (Addr × Obj)} {σ : St} {H : Hp} {s : Shared} {E : Value → Shared → Prop}
theorem Inv.wish (I:Inv X pins σ H s) (E:Value→Shared→Prop):Inv (X.wish E) pins σ H s:=⟨I.ok.wish E,I.os,I.bare,I.base,I.loc,I.cell,I.free,I.freeC,I.pin,I.hok,I.len⟩
theorem Inv.unwish (I:Inv (X.wish E) pins σ H s):Inv X pins σ H s:=⟨I.ok.unwish,I.os,I.bare,I.base,I.loc,I.cell,I.free,I.freeC,I.pin,I.hok,I.len⟩
theorem SP.unwish {D:Ends}{f:Flow}{s':Shared}(h:SP (X.wish E) pins D f s'):SP X pins D f s':=by
 cases f with
 |next=>obtain⟨σ',H',I,q⟩:=h;exact⟨σ',H',I.unwish,q⟩
 |brk=>obtain⟨σ',H',I,q⟩:=h;exact⟨σ',H',I.unwish,q⟩
 |cont=>obtain⟨σ',H',I,q⟩:=h;exact⟨σ',H',I.unwish,q⟩
 |ret u=>obtain⟨v,σ',H',I,r,q⟩:=h;exact⟨v,σ',H',I.unwish,r,q⟩
end
section
variable {X : Cx} {st : Stmt} {rest : List Stmt} {t u : TS} {e : Expr} {te : TE} {pos : Pos}
def qw:TS:=fun D σ H=>D.nx σ H
def qW (t u:TS):TS:=fun D σ H=>t {D with nx:=u D} σ H
theorem nZ:PSs X [] qw:=fun _ _ σ H _ I h=>wpAny_execs_nil ⟨σ,H,I,h⟩
theorem mr (h1:PS X st t) (h2:PSs X rest u):PSs X (st::rest) (qW t u):=by
 intro pins s σ H D I h
 refine wpAny_execs_cons (thn (h1 pins s σ H {D with nx:=u D} I h) fun f s1 q=>?_)
 cases f with
 |next=>
  obtain⟨σ',H',I',q⟩:=q
  exact h2 pins s1 σ' H' D I' q
 |ret v=>exact q
 |brk=>exact q
 |cont=>exact q
theorem n0 (h1:PS X st t):PSs X [st] t:=by
 intro pins s σ H D I h
 refine wpAny_execs_cons (thn (h1 pins s σ H D I h) fun f s1 q=>?_)
 cases f with
 |next=>exact wpAny_execs_nil q
 |ret v=>exact q
 |brk=>exact q
 |cont=>exact q
theorem Inv.quiet {pins:List (Addr×Obj)}{σ:St}{H:Hp}{s:Shared}(I:Inv X pins σ H s):interactive X.env=false:=by simp[interactive,I.ok.kind]
def oJ (te:TE):TS:=fun D σ H=>te σ H fun _ H1=>D.nx σ H1
theorem kr (he:PE X e te) (hs:swapsWith e none pos.line X.env=pure false:=by rfl):PS X (.Expr e pos) (oJ te):=by
 intro pins s σ H D I h
 exact wpAny_Expr_any (thn (he pins s σ H _ I h) fun v s1 ⟨x,H1,I1,r1,q1⟩=>⟨σ,H1,I1,q1⟩) I.quiet hs
def qV (te:TE):TS:=fun D σ H=>te σ H D.rt
theorem pJ (he:PE X e te):PS X (.Return (some e) pos) (qV te):=by
 intro pins s σ H D I h
 exact wpAny_Return_some (thn (he pins s σ H _ I h) fun v s1 ⟨x,H1,I1,r1,q1⟩=>⟨x,σ,H1,I1,r1,q1⟩)
def qS (c:TT) (t u:TS):TS:=fun D σ H=>c σ H fun b H1=>if b=true then t D σ H1 else u D σ H1
theorem qf {c:Expr}{a b:List Stmt}{tc:TT}(hc:PT X c tc) (ha:PSs X a t) (hb:PSs X b u):PS X (.If c a b pos) (qS tc t u):=by
 intro pins s σ H D I h
 refine wpAny_If (thn (hc pins s σ H _ I h) fun d s1 ⟨H1,I1,q1⟩=>?_)
 cases d with
 |true=>exact ha pins s1 σ H1 D I1 q1
 |false=>exact hb pins s1 σ H1 D I1 q1
end
abbrev TG:=V→St→Hp→(St→Hp→Prop)→Prop
def PG (X:Cx) (target:Expr) (t:TG):Prop:=
 ∀(pins:List (Addr×Obj)) (s:Shared) (σ:St) (H:Hp) (v:V) (u:Value) (Q:St→Hp→Prop),Inv X pins σ H s→RelV v u→t v σ H Q→
  wpAny (model X.prog X.w) X.A (assign target X.env u) (fun _ s'=>∃σ' H',Inv X pins σ' H' s'∧Q σ' H') X.xe s
section
variable {X : Cx} {pos : Pos}
def oz (i:Nat):TG:=fun v σ H Q=>Q (σ.set i (some v)) H
theorem eY {i:Nat}{x:Str}(hN:X.N.Nodup) (hi:X.N[i]? =some x) (hx:Loc X.env.scope x) (hf:X.fn x=true∨X.env.scope.names.lookup x=some .local:=by first | exact .inl rfl | exact .inr rfl | assumption):PG X (.Name x pos) (oz i):=by
 intro pins s σ H v u Q I r h
 exact wpAny_assign_Name (jv I hN hi hx r (fun s' I'=>⟨_,H,I',h⟩) hf)
def qQ (te:TE) (g:TG):TS:=fun D σ H=>te σ H fun x H1=>g x σ H1 D.nx
theorem mq {tg e:Expr}{te:TE}{g:TG}(he:PE X e te) (hg:PG X tg g) (hs:swapsWithSole [tg] e pos.line X.env=pure false:=by rfl) (hw:swappedStores [tg] e X.env=pure none:=by rfl)
 (h1:(assignEach [tg] X.env).map (·.2)=[assign tg X.env]:=by rfl):PS X (.Assign [tg] e pos) (qQ te g):=by
 intro pins s σ H D I h
 refine wpAny_Assign_stores (thn (he pins s σ H _ I h) fun v s1 ⟨x,H1,I1,r1,q1⟩=>?_) hs hw
 rw[h1]
 exact thn (hg pins s1 σ H1 x v _ I1 r1 q1) fun _ s2 q=>q
end
section
variable {X : Cx} {pos : Pos}
end
structure It where
 go:Nat→Hp→Prop
 yld:Nat→Hp→V→Hp→Prop
 stop:Nat→Hp→Prop
def iG (X:Cx) (pins:List (Addr×Obj)) (H:Hp) (b:Addr):Prop:=
 H b=none∧b≠X.env.locals∧b∉X.fs∧(b∈X.ex∨X.s₀.heap.objs.size≤b)∧(∀x c,X.env.cells.lookup x=some c→c≠b)∧∀p∈X.pn++pins,p.1≠b
theorem Inv.fpOk {X:Cx}{pins:List (Addr×Obj)}{σ:St}{H H':Hp}{s:Shared}{b:Addr}(I:Inv X pins σ H s) (hb:s.heap.objs.size≤b) (hn:H' b=none):iG X pins H' b:=by
 refine⟨hn,Nat.ne_of_gt (Nat.lt_of_lt_of_le I.lt hb),I.nofs hb, .inr (Nat.le_trans I.sz hb),fun x c e z=>?_,fun p hp z=>?_⟩
 ·obtain⟨v,q⟩:=I.cell x c e
  exact absurd (Nat.lt_of_lt_of_le q.lt (by rw[z];exact hb)) (Nat.lt_irrefl _)
 ·exact absurd (Nat.lt_of_lt_of_le (Heap.lt_size (I.pin p hp).1) (by rw[z];exact hb)) (Nat.lt_irrefl _)
structure Turn (P:Program) (w:World) (K:PySem.W.Frag) (tg:Expr) (J:It) (fp:List Addr) (it:Addr) (tn:Nat→Heap→Prop):Prop where
 mem:it∈fp
 obj:∀i h,tn i h→∀b∈fp,∃o,h.get? b=some o∧∀v,o.data≠ .cell v
 keep:∀i h h',tn i h→(∀b∈fp,∀o,h.get? b=some o→h'.get? b=some o)→tn i h'
 item:∀(X:Cx),X.prog=P→X.w=w→X.K=K→X.calm=true→∀(i:Nat) (pins:List (Addr×Obj)) (s:Shared) (σ:St) (H:Hp) (E:Value→Shared→Prop),Inv X pins σ H s→(∀b∈fp,iG X pins H b)→tn i s.heap→J.go i H→
  wpAny (model P w) X.A (pyNext (.ref it)) (fun r s1=>∃u,r=some u∧
   wpAny (model P w) X.A (letOwnedTupleGo tg (.ref it) u) (fun _ s2=>∃x H',Inv X pins σ H' s2∧RelV x u∧J.yld i H x H'∧tn (i+1) s2.heap∧∀b∈fp,H' b=none) E s1) E s
 done:∀(X:Cx),X.prog=P→X.w=w→X.K=K→X.calm=true→∀(i:Nat) (pins:List (Addr×Obj)) (s:Shared) (σ:St) (H:Hp) (E:Value→Shared→Prop),Inv X pins σ H s→(∀b∈fp,iG X pins H b)→tn i s.heap→J.stop i H→
  wpAny (model P w) X.A (pyNext (.ref it)) (fun r s1=>r=none∧Inv X pins σ H s1) E s
 self:∀(A:Around) (i:Nat) (s:Shared) (Q:Value→Shared→Prop) (E:Value→Shared→Prop),tn i s.heap→Q (.ref it) s→wpAny (model P w) A (pyIter (.ref it)) Q E s
abbrev TI:=St→Hp→(It→Hp→Prop)→Prop
def PIE (X:Cx) (pins:List (Addr×Obj)) (σ:St) (tg:Expr) (R:It→Hp→Prop) (itv:Value) (s2:Shared):Prop:=
 ∃(it:Addr) (fp:List Addr) (tn:Nat→Heap→Prop) (J:It) (H':Hp),itv= .ref it∧Inv X pins σ H' s2∧Turn X.prog X.w X.K tg J fp it tn∧tn 0 s2.heap∧(∀b∈fp,iG X pins H' b)∧R J H'
def PI (X:Cx) (tg iter:Expr) (wi:TI):Prop:=
 ∀(pins:List (Addr×Obj)) (s:Shared) (σ:St) (H:Hp) (R:It→Hp→Prop),Inv X pins σ H s→wi σ H R→
  wpAny (model X.prog X.w) X.A (eval iter X.env) (fun v s1=>wpAny (model X.prog X.w) X.A (pyIter v) (PIE X pins σ tg R) X.xe s1) X.xe s
theorem iW {M:Model}{A:Around}{E:Value→Shared→Prop}{s:Shared}{tg:Expr}{it:Addr}{u:Value}{o:Obj}{n:String}{vs:Array Value}{Q:Unit→Shared→Prop}(ho:s.heap.get? it=some o) (hc:o.cls= .type n) (hd:o.data= .fields vs)
 (hn:["enumerate","zip","dict_itemiterator","dict_reverseitemiterator","odict_iterator","itertools.zip_longest","itertools.pairwise"].contains n=false) (hQ:Q () s):wpAny M A (letOwnedTupleGo tg (.ref it) u) Q E s:=by
 unfold letOwnedTupleGo
 cases tg<;>first
  |exact wpAny_pure hQ
  |(cases u<;>first
    |exact wpAny_pure hQ
    |(refine wpAny_bind (wpAny_load ho ?_)
      rw[hc,hd]
      show wpAny M A (if (["enumerate","zip","dict_itemiterator","dict_reverseitemiterator","odict_iterator","itertools.zip_longest","itertools.pairwise"].contains n&&vs[0]? ==some (rawInt _))=true then _ else _) Q E s
      rw[if_neg (by intro h;rw[hn,Bool.false_and] at h;cases h)]
      exact wpAny_pure hQ))
def Itl (K:PySem.W.Frag) (a:Addr):It:=
 ⟨fun i H=>∃xs x,SqL K H a xs∧xs[i]? =some x,fun i H x H'=>H'=H∧∀xs,SqL K H a xs→xs[i]? =some x,fun i H=>∃xs,SqL K H a xs∧xs.length≤i⟩
def Itt (K:PySem.W.Frag) (a:Addr):It:=
 ⟨fun i H=>∃xs x,SqT K H a xs∧xs[i]? =some x,fun i H x H'=>H'=H∧∀xs,SqT K H a xs→xs[i]? =some x,fun i H=>∃xs,SqT K H a xs∧xs.length≤i⟩
def Itr (lo:Int) (n:Nat):It:=⟨fun i _=>i<n,fun i H x H'=>H'=H∧x= .int (lo+i),fun i _=>n≤i⟩
theorem ly {P:Program}{w:World}{K:PySem.W.Frag}{tg:Expr}(a it:Addr):Turn P w K tg (Itl K a) [it] it (fun i h=>h.IsListIter it a i) where
 mem:=by simp
 obj:=fun i h st b hb=>by
  have e:b=it:=by simpa using hb
  subst e
  obtain⟨o,e,c,d⟩:=st
  exact⟨o,e,fun v z=>by rw[d] at z;cases z⟩
 keep:=fun i h h' st k=>st.at fun o e=>k it (by simp) o e
 item:=by
  intro X hP hw hK hc i pins s σ H E I hf st hg
  subst hP hw hK
  obtain⟨xs,x,hq,hx⟩:=hg
  obtain⟨its,rv,p,hz⟩:=I.list hq
  obtain⟨u,hu,ru⟩:=rv.get hx
  obtain⟨f0,f1,f2,f3,f4,f5⟩:=hf it (by simp)
  refine wpAny_pyNext_list_item st p.isList (x:=u) (by simpa using hu) fun h' st' sb=>?_
  have I1:Inv X pins σ H {s with heap:=h'}:=I.turned (t':=s.toks) (fun b o hb e=>(sb.2 b hb).trans e) f0 f1 f3 f4 f5
  obtain⟨o,e,c,d⟩:=id st'
  exact⟨u,rfl,iW (s:={s with heap:=h'}) e c d (by decide) ⟨x,H,I1,ru,⟨rfl,fun ys hy=>by rw[I.list_inj hy hq];exact hx⟩,st',fun b hb=>(hf b hb).1⟩⟩
 done:=by
  intro X hP hw hK hc i pins s σ H E I hf st hg
  subst hP hw hK
  obtain⟨xs,hq,hx⟩:=hg
  obtain⟨its,rv,p,hz⟩:=I.list hq
  obtain⟨f0,f1,f2,f3,f4,f5⟩:=hf it (by simp)
  have hl:=rv.length
  exact wpAny_pyNext_list_end (I.ok.hd hc) st p.isList (by simp;omega) fun h' eb=>⟨rfl,I.turned (t':=s.toks) (fun b o hb e=>eb b o hb e) f0 f1 f3 f4 f5⟩
 self:=fun _ _ _ _ _ st h=>wpAny_pyIter_listiter st h
theorem j1 {P:Program}{w:World}{K:PySem.W.Frag}{tg:Expr}(a it:Addr):Turn P w K tg (Itt K a) [it] it (fun i h=>h.IsTupleIter it a i) where
 mem:=by simp
 obj:=fun i h st b hb=>by
  have e:b=it:=by simpa using hb
  subst e
  obtain⟨o,e,c,d⟩:=st
  exact⟨o,e,fun v z=>by rw[d] at z;cases z⟩
 keep:=fun i h h' st k=>st.at fun o e=>k it (by simp) o e
 item:=by
  intro X hP hw hK hc i pins s σ H E I hf st hg
  subst hP hw hK
  obtain⟨xs,x,hq,hx⟩:=hg
  obtain⟨its,rv,p,hz⟩:=I.tuple hq
  obtain⟨u,hu,ru⟩:=rv.get hx
  obtain⟨f0,f1,f2,f3,f4,f5⟩:=hf it (by simp)
  refine wpAny_pyNext_tuple_item st (show s.heap.IsTuple a its.toArray from p) (x:=u) (by simpa using hu) fun h' st' sb=>?_
  have I1:Inv X pins σ H {s with heap:=h'}:=I.turned (t':=s.toks) (fun b o hb e=>(sb.2 b hb).trans e) f0 f1 f3 f4 f5
  obtain⟨o,e,c,d⟩:=id st'
  exact⟨u,rfl,iW (s:={s with heap:=h'}) e c d (by decide) ⟨x,H,I1,ru,⟨rfl,fun ys hy=>by rw[I.tuple_inj hy hq];exact hx⟩,st',fun b hb=>(hf b hb).1⟩⟩
 done:=by
  intro X hP hw hK hc i pins s σ H E I hf st hg
  subst hP hw hK
  obtain⟨xs,hq,hx⟩:=hg
  obtain⟨its,rv,p,hz⟩:=I.tuple hq
  obtain⟨f0,f1,f2,f3,f4,f5⟩:=hf it (by simp)
  have hl:=rv.length
  exact wpAny_pyNext_tuple_end (I.ok.hd hc) st (show s.heap.IsTuple a its.toArray from p) (by simp;omega) fun h' eb=>⟨rfl,I.turned (t':=s.toks) (fun b o hb e=>eb b o hb e) f0 f1 f3 f4 f5⟩
 self:=fun _ _ _ _ _ st h=>wpAny_pyIter_tupleiter st h
theorem j0 {P:Program}{w:World}{K:PySem.W.Frag}{tg:Expr}(it:Addr) (lo:Int) (n:Nat):Turn P w K tg (Itr lo n) [it] it (fun i h=>IsRangeIter h it (lo+(i:Nat)*1) ((n:Int) - (i:Nat)) 1) where
 mem:=by simp
 obj:=fun i h st b hb=>by
  have e:b=it:=by simpa using hb
  subst e
  exact⟨_,st,fun v z=>by
   have z':Data.fields _=Data.cell v:=z
   cases z'⟩
 keep:=fun i h h' st k=>k it (by simp) _ st
 item:=by
  intro X hP hw hK hc i pins s σ H E I hf st hg
  subst hP hw hK
  obtain⟨f0,f1,f2,f3,f4,f5⟩:=hf it (by simp)
  have W:=Walks.range (prog:=X.prog) (w:=X.w) (I.ok.hd hc) it lo 1 n
  refine W.item i s _ _ hg st fun v h' tk hv st' kk=>?_
  obtain⟨t,rfl⟩:=hv
  have I1:Inv X pins σ H {s with heap:=h',toks:=tk}:=I.turned (fun b o hb e=>kk b o (by simpa using hb) e) f0 f1 f3 f4 f5
  refine⟨_,rfl,iW (s:={s with heap:=h',toks:=tk}) (n:="range_iterator") st' rfl rfl (by decide) ⟨.int (lo+i),H,I1,⟨t,?_⟩,⟨rfl,rfl⟩,st',fun b hb=>(hf b hb).1⟩⟩
  rw[Int.mul_one]
 done:=by
  intro X hP hw hK hc i pins s σ H E I hf st hg
  subst hP hw hK
  obtain⟨f0,f1,f2,f3,f4,f5⟩:=hf it (by simp)
  exact wpAny_pyNext_range_end (I.ok.hd hc) st (by have:n≤i:=hg;omega) fun h' eb=>⟨rfl,I.turned (t':=s.toks) (fun b o hb e=>eb b o hb e) f0 f1 f3 f4 f5⟩
 self:=fun _ _ _ _ _ st h=>wpAny_pyIter_rangeiter st h
end L2
namespace L2
open PySem PySem.Spec PyProof.Rows
section
variable {X : Cx} {tg : Expr}
def p8 (K:PySem.W.Frag) (tl:TE):TI:=fun σ H R=>tl σ H fun x H1=>∃a,x= .ref a∧(∃xs,SqL K H1 a xs)∧R (Itl K a) H1
def qF (K:PySem.W.Frag) (tl:TE):TI:=fun σ H R=>tl σ H fun x H1=>∃a,x= .ref a∧(∃xs,SqT K H1 a xs)∧R (Itt K a) H1
theorem nT {l:Expr}{tl:TE}(hl:PE X l tl):PI X tg l (p8 X.K tl):=by
 intro pins s σ H R I h
 refine thn (hl pins s σ H _ I h) fun v s1 ⟨x,H1,I1,r1,q1⟩=>?_
 obtain⟨a,e,⟨xs,hq⟩,q⟩:=q1
 subst e
 cases r1
 obtain⟨its,rv,p,hz⟩:=I1.list hq
 refine wpAny_pyIter_list p.isList ?_
 refine⟨s1.heap.objs.size,[s1.heap.objs.size],_,_,H1,rfl,I1.kept (t':=s1.toks) fun b o e=>Heap.get?_push_of_some _ e,ly a _,⟨_,Heap.get?_push_size _ rfl,rfl,rfl⟩,fun b hb=>?_,q⟩
 have e:b=s1.heap.objs.size:=by simpa using hb
 subst e
 exact I1.fpOk (Nat.le_refl _) (I1.hok.fresh (Nat.le_refl _))
theorem pH {l:Expr}{tl:TE}(hl:PE X l tl):PI X tg l (qF X.K tl):=by
 intro pins s σ H R I h
 refine thn (hl pins s σ H _ I h) fun v s1 ⟨x,H1,I1,r1,q1⟩=>?_
 obtain⟨a,e,⟨xs,hq⟩,q⟩:=q1
 subst e
 cases r1
 obtain⟨its,rv,p,hz⟩:=I1.tuple hq
 refine wpAny_pyIter_tuple (show s1.heap.IsTuple a its.toArray from p) ?_
 refine⟨s1.heap.objs.size,[s1.heap.objs.size],_,_,H1,rfl,I1.kept (t':=s1.toks) fun b o e=>Heap.get?_push_of_some _ e,j1 a _,⟨_,Heap.get?_push_size _ rfl,rfl,rfl⟩,fun b hb=>?_,q⟩
 have e:b=s1.heap.objs.size:=by simpa using hb
 subst e
 exact I1.fpOk (Nat.le_refl _) (I1.hok.fresh (Nat.le_refl _))
theorem mB {pins:List (Addr×Obj)}{σ:St}{H:Hp}{s:Shared}{R:It→Hp→Prop}{E:Value→Shared→Prop}{lo hi:Int}{t u v:Tok}{tk:Nat}(I:Inv X pins σ H s) (h1: -(2 ^ 62)≤lo) (h2:lo<2 ^ 62) (h3: -(2 ^ 62)≤hi) (h4:hi<2 ^ 62)
 (q:R (Itr lo (hi - lo).toNat) H):wpAny (model X.prog X.w) X.A (pyIter (.ref s.heap.objs.size)) (PIE X pins σ tg R) E {s with heap:=s.heap.push {cls:= .type "range",data:= .fields #[.int lo t, .int hi u, .int 1 v]},toks:=tk}:=by
 refine wpAny_pyIter_range (IsRange.new ..) (small_one h1 h2 h3 h4) ?_
 have I1:Inv X pins σ H {s with heap:=s.heap.push {cls:= .type "range",data:= .fields #[.int lo t, .int hi u, .int 1 v]},toks:=tk}:=I.kept fun b o e=>Heap.get?_push_of_some _ e
 refine⟨(s.heap.push {cls:= .type "range",data:= .fields #[.int lo t, .int hi u, .int 1 v]}).objs.size,[(s.heap.push {cls:= .type "range",data:= .fields #[.int lo t, .int hi u, .int 1 v]}).objs.size],_,_,H,rfl,
  I1.kept (t':=tk) fun b o e=>Heap.get?_push_of_some _ e,j0 _ lo (hi - lo).toNat,?_,fun b hb=>?_,q⟩
 ·have e1:lo+((0:Nat):Int)*1=lo:=by simp
  have e2:(((hi - lo).toNat:Nat):Int) - ((0:Nat):Int)=Builtin.Range.rangeSize lo hi 1:=by rw[rangeSize_one];split<;>omega
  show IsRangeIter _ _ (lo+((0:Nat):Int)*1) ((((hi - lo).toNat:Nat):Int) - ((0:Nat):Int)) 1
  rw[e1,e2]
  exact Heap.get?_push_size _ rfl
 ·have e:b=(s.heap.push {cls:= .type "range",data:= .fields #[.int lo t, .int hi u, .int 1 v]}).objs.size:=by simpa using hb
  subst e
  exact I1.fpOk (Nat.le_refl _) (I1.hok.fresh (Nat.le_refl _))
def p9 (ta:TA):TI:=fun σ H R=>ta σ H fun vs H1=>∃j:Int,vs=[.int j]∧ -(2 ^ 62)≤j∧j<2 ^ 62∧R (Itr 0 j.toNat) H1
theorem lj {a:Expr}{ta:TA}{p pos:Pos}(hg:Gl X "range") (hm:X.mg "range"=none) (ha:PA X [a] ta) (hs:starEach [a] X.env=[(false,eval a X.env)]:=by rfl):PI X tg (.Call (.Name "range" p) [a] [] pos) (p9 ta):=by
 intro pins s σ H R I h
 refine Call_ (g0 I hg hm boot_range (PyProof.Rows.callWith_type1 (thn (ha pos pins s σ H _ I h) fun us s1 ⟨vs,H1,I1,r1,q1⟩=>?_) hs rfl))
 obtain⟨j,e,q1,q2,q⟩:=q1
 subst e
 cases r1 with
 |cons r rr=>
  cases rr
  obtain⟨t,rfl⟩:=r
  exact call_range_1 (mB I1 (by omega) (by omega) q1 q2 (by simpa using q))
def qR (wi:TI) (g:TG) (tb:TS):TS:=fun D σ H=>wi σ H fun J H1=>∃W:Nat→Nat→St→Hp→Prop,(∃m,W 0 m σ H1)∧∀i m σ H,W i m σ H→
 (J.stop i H∧D.nx σ H)∨(J.go i H∧∃N:St→Hp→Prop,(∀σ' H',N σ' H'→∃m',m'<m∧W (i+1) m' σ' H')∧∀x H',J.yld i H x H'→g x σ H' fun σ2 H2=>tb {D with nx:=N,ct:=N,bk:=D.nx} σ2 H2)
def fG (fp:List Addr) (h:Heap):List (Addr×Obj):=fp.filterMap fun b=>(h.get? b).map fun o=>(b,o)
theorem cE {fp:List Addr}{h:Heap}{b:Addr}{o:Obj}(hb:b∈fp) (e:h.get? b=some o):(b,o)∈fG fp h:=List.mem_filterMap.mpr ⟨b,hb,by rw[e];rfl⟩
theorem k8 {fp:List Addr}{h:Heap}{p:Addr×Obj}(hp:p∈fG fp h):p.1∈fp∧h.get? p.1=some p.2:=by
 obtain⟨b,hb,e⟩:=List.mem_filterMap.mp hp
 cases q:h.get? b with
 |none=>rw[q] at e;cases e
 |some o=>
  rw[q] at e
  have e':(b,o)=p:=Option.some.inj e
  subst e'
  exact⟨hb,q⟩
theorem Inv.pinned {pins:List (Addr×Obj)}{σ:St}{H:Hp}{s:Shared}{fp:List Addr}(I:Inv X pins σ H s) (hf:∀b∈fp,iG X pins H b) (ho:∀b∈fp,∃o,s.heap.get? b=some o∧∀v,o.data≠ .cell v):Inv X (pins++fG fp s.heap) σ H s:=
 I.pins_of fun p hp=>(List.mem_append.mp hp).elim (fun z=>I.pin p (List.mem_append_right _ z)) fun z=>by
  obtain⟨hb,e⟩:=k8 z
  obtain⟨f0,f1,f2,_⟩:=hf p.1 hb
  obtain⟨o,e',d⟩:=ho p.1 hb
  rw[e] at e';cases e'
  exact⟨e,f0,f1,f2,d⟩
theorem Inv.unpinned {pins pl:List (Addr×Obj)}{σ:St}{H:Hp}{s:Shared}(I:Inv X (pins++pl) σ H s):Inv X pins σ H s:=I.pins_of fun p hp=>I.pin p (List.mem_append_right _ (List.mem_append_left _ hp))
theorem pI {iter:Expr}{body:List Stmt}{wi:TI}{g:TG}{tb:TS}{pos:Pos}(hp:PassesOwn (model X.prog X.w) X.A X.env X.xe) (hc:X.calm=true) (hi:PI X tg iter wi) (hg:PG X tg g) (hb:PSs X body tb)
 (hs:∀x,foldedSetIterable iter X.env x=pure x:=by intro _;rfl):PS X (.For tg iter body [] pos) (qR wi g tb):=by
 intro pins s σ H D I h
 refine wpAny_For (thn (hi pins s σ H _ I h) fun v s1 h1=>thn h1 fun itv s2 h2=>?_) hs
 obtain⟨it,fp,tn,J,H2,e,I2,T,st2,f2,W,⟨m0,w0⟩,turn⟩:=h2
 subst e
 have stat:∀{H':Hp},(∀b∈fp,H' b=none)→∀b∈fp,iG X pins H' b:=fun hn b hb=>⟨hn b hb,(f2 b hb).2⟩
 refine codeAny_forLoop_any (fun n s'=>∃i σ' H',Inv X pins σ' H' s'∧tn i s'.heap∧(∀b∈fp,H' b=none)∧W i n σ' H') ?_ m0 ⟨0,σ,H2,I2,st2,fun b hb=>(f2 b hb).1,w0⟩
 rintro n s3 ⟨i,σ3,H3,I3,st3,fr3,w3⟩
 rcases turn i n σ3 H3 w3 with⟨stop,qn⟩ | ⟨go,N,hN,step⟩
 ·refine wpAny_passesOwn hp (thn (T.done X rfl rfl rfl hc i pins s3 σ3 H3 X.xe I3 (stat fr3) st3 stop) fun r s4 ⟨hr,I4⟩=>?_)
  subst hr
  exact wpAny_execs_nil ⟨σ3,H3,I4,qn⟩
 ·refine wpAny_passesOwn hp (thn (T.item X rfl rfl rfl hc i pins s3 σ3 H3 X.xe I3 (stat fr3) st3 go) fun r s4 ⟨u,hr,h4⟩=>?_)
  subst hr
  refine wpAny_passesOwn hp (thn h4 fun _ s5 ⟨x,H5,I5,r5,y5,st5,fr5⟩=>?_)
  have I5':=I5.pinned (stat fr5) (T.obj _ _ st5)
  refine wpAny_passesOwn hp (thn (hg _ s5 σ3 H5 x u _ I5' r5 (step x H5 y5)) fun _ s6 ⟨σ6,H6,I6,q6⟩=>?_)
  refine wpAny_passesOwn hp (thn (hb _ s6 σ6 H6 _ I6 q6) fun f s7 q7=>?_)
  have again:∀{σ7:St}{H7:Hp},Inv X (pins++fG fp s5.heap) σ7 H7 s7→N σ7 H7→∃m,m<n∧∃i σ' H',Inv X pins σ' H' s7∧tn i s7.heap∧(∀b∈fp,H' b=none)∧W i m σ' H':=fun {σ7 H7} I7 n7=>by
   obtain⟨m',hm,w7⟩:=hN σ7 H7 n7
   refine⟨m',hm,i+1,σ7,H7,I7.unpinned,T.keep _ _ _ st5 fun b hb o e=>(I7.pin (b,o) (List.mem_append_right _ (List.mem_append_right _ (cE hb e)))).1,fun b hb=>?_,w7⟩
   obtain⟨o,e,d⟩:=T.obj _ _ st5 b hb
   exact(I7.pin (b,o) (List.mem_append_right _ (List.mem_append_right _ (cE hb e)))).2.1
  cases f with
  |next=>obtain⟨σ7,H7,I7,n7⟩:=q7;exact again I7 n7
  |cont=>obtain⟨σ7,H7,I7,n7⟩:=q7;exact again I7 n7
  |brk=>obtain⟨σ7,H7,I7,q7⟩:=q7;exact⟨σ7,H7,I7.unpinned,q7⟩
  |ret v=>obtain⟨x7,σ7,H7,I7,r7,q7⟩:=q7;exact⟨x7,σ7,H7,I7.unpinned,r7,q7⟩
end
end L2
namespace L2
open PySem PySem.Spec PyProof.Rows
abbrev R2:=V→V→Hp→VK→Prop
def OpR (X:Cx) (f:Value→Value→Sem Value) (r:R2):Prop:=
 ∀(pins:List (Addr×Obj)) (s:Shared) (σ:St) (H:Hp) (x y:V) (v u:Value) (Q:VK),Inv X pins σ H s→RelV x v→RelV y u→r x y H Q→
  wpAny (model X.prog X.w) X.A (f v u) (EP X pins σ Q) X.xe s
def UnR (X:Cx) (f:Value→Sem Value) (r:V→Hp→VK→Prop):Prop:=
 ∀(pins:List (Addr×Obj)) (s:Shared) (σ:St) (H:Hp) (x:V) (v:Value) (Q:VK),Inv X pins σ H s→RelV x v→r x H Q→
  wpAny (model X.prog X.w) X.A (f v) (EP X pins σ Q) X.xe s
def CallR (X:Cx) (f:Value) (r:List V→Hp→VK→Prop):Prop:=
 ∀(pins:List (Addr×Obj)) (s:Shared) (σ:St) (H:Hp) (xs:List V) (us:List Value) (Q:VK),Inv X pins σ H s→Vals xs us→r xs H Q→
  wpAny (model X.prog X.w) X.A (call f us) (EP X pins σ Q) X.xe s
def qC (X:Cx) (r:V→Hp→(Bool→Hp→Prop)→Prop):Prop:=
 ∀(pins:List (Addr×Obj)) (s:Shared) (σ:St) (H:Hp) (x:V) (v:Value) (Q:Bool→Hp→Prop),Inv X pins σ H s→RelV x v→r x H Q→
  wpAny (model X.prog X.w) X.A (truthy v) (TP X pins σ Q) X.xe s
def tOp (r:R2) (ta tb:TE):TE:=fun σ H Q=>ta σ H fun x H1=>tb σ H1 fun y H2=>r x y H2 Q
def tUn (r:V→Hp→VK→Prop) (ta:TE):TE:=fun σ H Q=>ta σ H fun x H1=>r x H1 Q
def rI (C:Int→Int→Prop) (g:Int→Int→V):R2:=fun x y H Q=>∃i j,x= .int i∧y= .int j∧C i j∧Q (g i j) H
def rI0 (g:Int→Int→V):R2:=fun x y H Q=>∃i j,x= .int i∧y= .int j∧Q (g i j) H
def rU (g:Int→V):V→Hp→VK→Prop:=fun x H Q=>∃i,x= .int i∧Q (g i) H
section
variable {X : Cx} {a b c : Expr} {ta tb tc : TE} {pos : Pos}
theorem oP (ha:PE X a ta) (hb:PE X b tb) {pins:List (Addr×Obj)}{s:Shared}{σ:St}{H:Hp}{R:V→V→Hp→Prop}(I:Inv X pins σ H s)
 (h:ta σ H fun x H1=>tb σ H1 fun y H2=>R x y H2) {Q:Value→Shared→Prop}{f:Value→Value→Sem Value}
 (hf:∀v u s2 x y H2,Inv X pins σ H2 s2→RelV x v→RelV y u→R x y H2→wpAny (model X.prog X.w) X.A (f v u) Q X.xe s2):
 wpAny (model X.prog X.w) X.A (eval a X.env) (fun v s₁=>wpAny (model X.prog X.w) X.A (eval b X.env) (fun u s₂=>wpAny (model X.prog X.w) X.A (f v u) Q X.xe s₂) X.xe s₁) X.xe s:=by
 refine thn (ha pins s σ H _ I h) fun v s1 ⟨x,H1,I1,r1,q1⟩=>?_
 refine thn (hb pins s1 σ H1 _ I1 q1) fun u s2 ⟨y,H2,I2,r2,q2⟩=>?_
 exact hf v u s2 x y H2 I2 r1 r2 q2
theorem oG {op:Operator}{r:R2}(ho:OpR X (binaryOp op) r) (ha:PE X a ta) (hb:PE X b tb):PE X (.BinOp a op b pos) (tOp r ta tb):=by
 intro pins s σ H Q I h
 exact wpAny_BinOp (oP ha hb I h fun v u s2 x y H2 I2 rx ry q=>ho pins s2 σ H2 x y v u Q I2 rx ry q)
theorem qe {op:UnaryOp}{r:V→Hp→VK→Prop}(ho:UnR X (unaryOp op) r) (ha:PE X a ta):PE X (.UnaryOp op a pos) (tUn r ta):=by
 intro pins s σ H Q I h
 exact UnaryOp_ (thn (ha pins s σ H _ I h) fun v s1 ⟨x,H1,I1,r1,q1⟩=>ho pins s1 σ H1 x v Q I1 r1 q1)
theorem opI {f:Value→Value→Sem Value}{C:Int→Int→Prop}{g:Int→Int→Int}
 (rule:∀(i j:Int) (t u:Tok) (s:Shared) (Q:Value→Shared→Prop) (E:Value→Shared→Prop),C i j→Q (.int (g i j) s.toks) {s with toks:=s.toks+1}→wpAny (model X.prog X.w) X.A (f (.int i t) (.int j u)) Q E s):
 OpR X f (rI C fun i j=> .int (g i j)):=by
 intro pins s σ H x y v u Q I rx ry h
 obtain⟨i,j,rfl,rfl,hc,q⟩:=h
 obtain⟨t,rfl⟩:=rx
 obtain⟨t',rfl⟩:=ry
 exact rule i j t t' s _ _ hc ⟨.int (g i j),H,I.tok _,⟨_,rfl⟩,q⟩
theorem qI {f:Value→Value→Sem Value}{g:Int→Int→Int}
 (rule:∀(i j:Int) (t u:Tok) (s:Shared) (Q:Value→Shared→Prop) (E:Value→Shared→Prop),Q (.int (g i j) s.toks) {s with toks:=s.toks+1}→wpAny (model X.prog X.w) X.A (f (.int i t) (.int j u)) Q E s):
 OpR X f (rI0 fun i j=> .int (g i j)):=by
 intro pins s σ H x y v u Q I rx ry h
 obtain⟨i,j,rfl,rfl,q⟩:=h
 obtain⟨t,rfl⟩:=rx
 obtain⟨t',rfl⟩:=ry
 exact rule i j t t' s _ _ ⟨.int (g i j),H,I.tok _,⟨_,rfl⟩,q⟩
theorem qH {f:Value→Value→Sem Value}{g:Int→Int→Bool}
 (rule:∀(i j:Int) (t u:Tok) (s:Shared) (Q:Value→Shared→Prop) (E:Value→Shared→Prop),Q (.bool (g i j)) s→wpAny (model X.prog X.w) X.A (f (.int i t) (.int j u)) Q E s):
 OpR X f (rI0 fun i j=> .bl (g i j)):=by
 intro pins s σ H x y v u Q I rx ry h
 obtain⟨i,j,rfl,rfl,q⟩:=h
 obtain⟨t,rfl⟩:=rx
 obtain⟨t',rfl⟩:=ry
 exact rule i j t t' s _ _ ⟨.bl (g i j),H,I,rfl,q⟩
def pZ (i j:Int):Prop:=0<j∧j<1073741824
def CMul (i j:Int):Prop:=(-(2 ^ 64)<i∧i<2 ^ 64)∨(-(2 ^ 64)<j∧j<2 ^ 64)
theorem CMul.ok {i j:Int}(h:CMul i j):IntMulOk i j:=by
 rcases h with⟨h1,h2⟩ | ⟨h1,h2⟩
 ·exact .of_left (intBits_le_64 h1 h2)
 ·exact .of_right (intBits_le_64 h1 h2)
theorem o9:OpR X (binaryOp .Add) (rI0 fun i j=> .int (i+j)):=qI fun _ _ _ _ _ _ _ q=>add_int q
theorem pb:OpR X (binaryOp .Mult) (rI CMul fun i j=> .int (i*j)):=opI fun _ _ _ _ _ _ _ hc q=>mul_int q hc.ok
theorem ny:OpR X (binaryOp .FloorDiv) (rI pZ fun i j=> .int (i / j)):=opI fun i j _ _ _ _ _ hc q=>by
 have h1:(0:Int)<j:=hc.1
 have h2:j<1073741824:=hc.2
 exact floordiv_int (by omega) (by rw[Int.fdiv_eq_ediv_of_nonneg i (by omega)];exact q) (.inl (PyProof.noPylong_small (by omega)))
theorem o_:OpR X (binaryOp .Mod) (rI (fun _ j=>0<j) fun i j=> .int (i % j)):=opI fun i j _ _ _ _ _ hc q=>by
 have h1:(0:Int)<j:=hc
 exact mod_int' (by omega) (by rw[Int.fmod_eq_emod_of_nonneg i (by omega)];exact q)
theorem unI {f:Value→Sem Value}{g:Int→Int}
 (rule:∀(i:Int) (t:Tok) (s:Shared) (Q:Value→Shared→Prop) (E:Value→Shared→Prop),Q (.int (g i) s.toks) {s with toks:=s.toks+1}→wpAny (model X.prog X.w) X.A (f (.int i t)) Q E s):
 UnR X f (rU fun i=> .int (g i)):=by
 intro pins s σ H x v Q I rx h
 obtain⟨i,rfl,q⟩:=h
 obtain⟨t,rfl⟩:=rx
 exact rule i t s _ _ ⟨.int (g i),H,I.tok _,⟨_,rfl⟩,q⟩
theorem pX:UnR X (unaryOp .USub) (rU fun i=> .int (-i)):=unI fun _ _ _ _ _ q=>neg_int q
end
section
variable {X : Cx} {a b c : Expr} {ta tb tc : TE} {pos : Pos}
theorem oY {pins:List (Addr×Obj)}{σ:St}{H:Hp}{s:Shared}{Q:VK}{k k':Bool}(I:Inv X pins σ H s) (q:Q (.bl k) H) (e:k=k'):EP X pins σ Q (.bool k') s:=by
 subst e
 exact⟨.bl k,H,I,rfl,q⟩
theorem kg:OpR X (compareOp .LtE) (rI0 fun i j=> .bl (decide (i≤j))):=qH fun _ _ _ _ _ _ _ q=>le_int q
theorem la:OpR X (compareOp .In) (fun x y H Q=>∃i j,x= .str i∧y= .str j∧Q (.bl (!(Builtin.Str.occurrences j i 0 j.length 1).isEmpty)) H):=by
 intro pins s σ H x y v u Q I rx ry h
 obtain⟨i,j,rfl,rfl,q⟩:=h
 obtain⟨t,rfl⟩:=rx
 obtain⟨t',rfl⟩:=ry
 exact in_str (oY I q rfl)
theorem OpR.or {f:Value→Value→Sem Value}{r r':R2}(h:OpR X f r) (h':OpR X f r'):OpR X f (fun x y H Q=>r x y H Q∨r' x y H Q):=by
 intro pins s σ H x y v u Q I rx ry q
 rcases q with q | q
 ·exact h pins s σ H x y v u Q I rx ry q
 ·exact h' pins s σ H x y v u Q I rx ry q
theorem lX (b:Expr) {op:CmpOp}(h:op≠ .In:=by decide) (h2:op≠ .NotIn:=by decide):behindInMarks op b=false:=by
 have e1:(op==CmpOp.In)=false:=by cases op<;>first | rfl | exact absurd rfl h
 have e2:(op==CmpOp.NotIn)=false:=by cases op<;>first | rfl | exact absurd rfl h2
 cases b<;>simp[behindInMarks,e1,e2]
theorem nR {op:CmpOp}{r:R2}(ho:OpR X (compareOp op) r) (ha:PE X a ta) (hb:PE X b tb) (hm:behindInMarks op b=false):PE X (.Compare a [op] [b] pos) (tOp r ta tb):=by
 intro pins s σ H Q I h
 exact wpAny_Compare1 (oP ha hb I h fun v u s2 x y H2 I2 rx ry q=>ho pins s2 σ H2 x y v u Q I2 rx ry q) hm
def oK (t:TE):TT:=fun σ H Q=>t σ H fun x H'=>∃k,x= .bl k∧Q k H'
theorem n3 {op:CmpOp}{r:R2}(ho:OpR X (compareOp op) r) (ha:PE X a ta) (hb:PE X b tb) (hm:behindInMarks op b=false):PT X (.Compare a [op] [b] pos) (oK (tOp r ta tb)):=by
 intro pins s σ H Q I h
 refine wpAny_isTrue_Compare1 (thn (ha pins s σ H _ I h) fun v s1 ⟨x,H1,I1,r1,q1⟩=>thn (hb pins s1 σ H1 _ I1 q1) fun u s2 ⟨y,H2,I2,r2,q2⟩=>
  thn (ho pins s2 σ H2 x y v u _ I2 r1 r2 q2) fun c s3 ⟨z,H3,I3,r3,k,e,q3⟩=>?_) hm
 subst e
 cases r3
 exact wpAny_truthy_bool ⟨H3,I3,q3⟩
def mP (r r':R2) (ta tb tc:TE):TE:=fun σ H Q=>ta σ H fun x H1=>tb σ H1 fun y H2=>r x y H2 fun z H3=>∃k,z= .bl k∧
 (if k=true then tc σ H3 fun w' H4=>r' y w' H4 Q else Q (.bl false) H3)
theorem mw {op op':CmpOp}{r r':R2}(ho:OpR X (compareOp op) r) (ho':OpR X (compareOp op') r') (ha:PE X a ta) (hb:PE X b tb) (hc:PE X c tc)
 (hm:lastMarks [op,op'] [b,c]=false:=by with_unfolding_all rfl):PT X (.Compare a [op,op'] [b,c] pos) (oK (mP r r' ta tb tc)):=by
 intro pins s σ H Q I h
 refine isTrue_chain (thn (ha pins s σ H _ I h) fun v s1 ⟨x,H1,I1,r1,q1⟩=>test_link (thn (hb pins s1 σ H1 _ I1 q1) fun u s2 ⟨y,H2,I2,r2,q2⟩=>
  thn (ho pins s2 σ H2 x y v u _ I2 r1 r2 q2) fun d s3 ⟨z,H3,I3,r3,k,e,q3⟩=>?_)) hm
 subst e
 cases r3
 refine wpAny_truthy_bool ?_
 cases k with
 |false=>
  obtain⟨k',e',q'⟩:=q3
  cases e'
  exact ite_ff ⟨H3,I3,q'⟩
 |true=>
  refine ite_tt (test_last (thn (hc pins s3 σ H3 _ I3 q3) fun w' s4 ⟨z',H4,I4,r4,q4⟩=>thn (ho' pins s4 σ H4 y z' u w' _ I4 r2 r4 q4) fun d' s5 ⟨z2,H5,I5,r5,k2,e2,q5⟩=>?_))
  subst e2
  cases r5
  exact wpAny_truthy_bool ⟨H5,I5,q5⟩
def p3 (K:PySem.W.Frag) (x:V) (H:Hp) (k:Bool):Prop:=
 match x with
 | .non=>k=false
 | .bl b=>k=b
 | .int i=>k=(i !=0)
 | .str y=>y.length≤sizeLine∧k=((y.length:Int) !=0)
 | .byt y=>y.size≤sizeLine∧k=((y.size:Int) !=0)
 | .ref p=>(∃xs,SqL K H p xs∧k=!xs.isEmpty)∨(∃xs,SqT K H p xs∧k=!xs.isEmpty)∨∃kvs,H p=some (.dK kvs)∧k=!kvs.isEmpty
 |_=>False
theorem jO {κ:Type}{kvs:List (κ×V)}{vs:List (κ×Value)}(r:KV kvs vs):(!vs.isEmpty)=!kvs.isEmpty:=by
 cases r<;>rfl
theorem fq {xs:List V}{its:List Value}(r:Vals xs its):(!its.toArray.isEmpty)=!xs.isEmpty:=by
 cases r<;>simp
theorem d4:(sizeLine:Nat)<2 ^ 63:=by rw[sizeLine_eq];decide
theorem pV:qC X (fun x H Q=>∃k,p3 X.K x H k∧Q k H):=by
 intro pins s σ H x v Q I rx h
 obtain⟨k,e,q⟩:=h
 have hl:=d4
 have hs:sizeLine=16777216:=sizeLine_eq
 cases x with
 |non=>
  cases rx
  have e':k=false:=e
  subst e'
  exact truthy_none ⟨H,I,q⟩
 |bl b=>
  cases rx
  have e':k=b:=e
  subst e'
  exact wpAny_truthy_bool ⟨H,I,q⟩
 |int i=>
  obtain⟨t,rfl⟩:=rx
  have e':k=(i !=0):=e
  subst e'
  exact PySem.P.truthy_int ⟨H,I,q⟩
 |str y=>
  obtain⟨t,rfl⟩:=rx
  obtain⟨hy,e'⟩:y.length≤sizeLine∧k=((y.length:Int) !=0):=e
  subst e'
  exact PySem.P.truthy_str (by omega) ⟨H,I.tok _,q⟩
 |byt y=>
  obtain⟨t,rfl⟩:=rx
  obtain⟨hy,e'⟩:y.size≤sizeLine∧k=((y.size:Int) !=0):=e
  subst e'
  exact PySem.W.truthy_bytes (by omega) ⟨H,I.tok _,q⟩
 |ref p=>
  cases rx
  have e':(∃xs,SqL X.K H p xs∧k=!xs.isEmpty)∨(∃xs,SqT X.K H p xs∧k=!xs.isEmpty)∨∃kvs,H p=some (.dK kvs)∧k=!kvs.isEmpty:=e
  rcases e' with⟨xs,hx,e'⟩ | ⟨xs,hx,e'⟩ | ⟨kvs,hx,e'⟩
  ·subst e'
   obtain⟨its,r,pl,hz⟩:=I.list hx
   have hlen:=r.length
   exact wpAny_truthy_list pl.isList (by simp only[List.size_toArray];omega) ⟨H,I.tok _,by rw[fq r];exact q⟩
  ·subst e'
   obtain⟨its,r,pl,hz⟩:=I.tuple hx
   have hlen:=r.length
   exact truthy_tuple pl (by simp only[List.size_toArray];omega) ⟨H,I.tok _,by rw[fq r];exact q⟩
  ·subst e'
   obtain⟨hz,hS,vs,r,m⟩:kvs.length≤sizeLine∧(p==sysModules)=false∧∃vs,KV kvs vs∧s.heap.DictOf (g5 X.prog X.w) p vs:=I.hok p _ hx
   have hlen:kvs.length=vs.length:=Paired.length r
   exact wpAny_truthy_dict hS m (by omega) ⟨H,I.tok _,by rw[jO r];exact q⟩
 |_=>exact(show False from e).elim
theorem my (ha:PE X a ta) (he:∀whole,isTrue a X.env whole=(do let v←whole;standAt a.pos;holding [v] (truthy v))):
 PT X a (fun σ H Q=>ta σ H fun x H'=>∃k,p3 X.K x H' k∧Q k H'):=by
 intro pins s σ H Q I h
 exact isTrue_plain (thn (ha pins s σ H _ I h) fun v s1 ⟨x,H1,I1,r1,q1⟩=>pV pins s1 σ H1 x v Q I1 r1 q1) (he _)
theorem jS:OpR X (binaryOp .Add) (fun x y H Q=>∃i j,x= .str i∧y= .str j∧i.length+j.length≤sizeLine∧Q (.str (i++j)) H):=by
 intro pins s σ H x y v u Q I rx ry h
 obtain⟨i,j,rfl,rfl,hz,q⟩:=h
 obtain⟨t,rfl⟩:=rx
 obtain⟨t',rfl⟩:=ry
 exact add_str (fun t' tk=>⟨.str (i++j),H,I.tok _,⟨_,rfl⟩,q⟩) hz
theorem vals1 {x:V}{us:List Value}(r:Vals [x] us):∃u,us=[u]∧RelV x u:=by
 cases r with
 |cons r1 r2=>cases r2;exact⟨_,rfl,r1⟩
theorem vals2 {x y:V}{us:List Value}(r:Vals [x,y] us):∃u w',us=[u,w']∧RelV x u∧RelV y w':=by
 cases r with
 |cons r1 r2=>
  cases r2 with
  |cons r3 r4=>cases r4;exact⟨_,_,rfl,r1,r3⟩
end
end L2
namespace L2
open PySem PySem.Spec PyProof.Rows
structure ObjM (h:Heap) (x dx C:Addr) (mA:Str→Option Value):Prop where
 obj:h.get? x=some (PySem.W.instObj C dx)
 ns:h.Ns1 dx mA
 ne:dx≠x
theorem k7 {h:Heap}{dx:Addr}{mA:Str→Option Value}(n:h.Ns1 dx mA):∃od,h.get? dx=some od∧∀name,PySem.W.lookIn name od=some (mA name):=by
 obtain⟨o,es,ep,ho,hd,hk,_,hm⟩:=n
 refine⟨o,ho,fun name=>?_⟩
 have e:=hm name
 unfold nsFind findBy at e
 rw[←Array.find?_toList] at e
 unfold PySem.W.lookIn
 rw[hd]
 dsimp only
 split
 ·rename_i y q
  rw[q] at e
  exact congrArg some e
 ·rename_i q
  rw[q] at e
  have a:es.toList.any (·.refKey)=false:=by
   rw[List.any_eq_false]
   intro y hy
   obtain⟨z,t,hkey⟩:=hk y (Array.mem_toList_iff.mp hy)
   simp[DictEntry.refKey,hkey]
  have a':¬es.toList.any (·.refKey)=true:=by rw[a];exact Bool.false_ne_true
  rw[if_neg a']
  exact congrArg some e
theorem ObjM.look {h:Heap}{x dx C:Addr}{mA:Str→Option Value}(I:ObjM h x dx C mA):∃od,PySem.W.InstAt h x (PySem.W.instObj C dx) C (some od)∧∀name,PySem.W.lookIn name od=some (mA name):=
 let ⟨od,ho,hl⟩:=k7 I.ns
 ⟨od,⟨I.obj,rfl,rfl,ho⟩,hl⟩
section
variable {prog : Program} {w : World} {A : Around} {E : Value → Shared → Prop} {s : Shared} {K : PySem.W.Frag} {x dx C f : Addr} {mA : Str → Option Value} {name : Str} {v : Value}
end
section
variable {P : Program} {w : World} {H H' : Hp} {h h' : Heap} {a C dx : Addr} {fs fs' : List (Str × V)}
theorem m8 (hok:HOk P w H h) (e:H a=some (.ins C dx fs)):∃mA,ObjM h a dx C mA∧(∀f,RelO (fs.lookup f) (mA f))∧PySem.Within mA (fs.map (·.1))∧fs.length≤1000∧H dx=some (.own a):=by
 obtain⟨d,z,ne,ob,mA,n,r,q⟩:=(show ObjOk P w H h a (.ins C dx fs) from hok a _ e)
 exact⟨mA,⟨ob,n,ne⟩,r,q,z,d⟩
end
structure Cls (K:PySem.W.Frag) (C:Addr):Prop where
 pg:PySem.W.plainGet K C Str.empty=true
 hd:PySem.W.hasDictIn K C=true
 po:PySem.W.plainOver K C=true
 sa:PySem.W.findIn K (.ref C) "__setattr__"=some (some (.builtin "object.__setattr__"))
theorem Cls.get {K:PySem.W.Frag}{C:Addr}(c:Cls K C) (f:Str):PySem.W.plainGet K C f=true:=c.pg
structure Con (K:PySem.W.Frag) (C:Addr) (f:Str) (v:V) (u:Value):Prop where
 at_:PySem.W.findIn K (.ref C) f=some (some u)
 rel:RelV v u
 get:PySem.W.specialIn K u "__get__"=some none
 cp:PySem.W.copiedNames.contains f=false
structure Meth (K:PySem.W.Frag) (C:Addr) (m:Str) (f:Addr):Prop where
 at_:PySem.W.findIn K (.ref C) m=some (some (.ref f))
 fn:PySem.W.isFn K (.ref f)=true
 kp:PySem.W.keepIn K (.ref f)=true
section
variable {X : Cx} {pins : List (Addr × Obj)} {σ : St} {H : Hp} {s : Shared} {a C dx : Addr} {fs : List (Str × V)} {f : Str} {v : V} {A : Around} {E : Value → Shared → Prop}
end
section
variable {X : Cx} {o e value : Expr} {f : Str} {pos pos' tpos : Pos} {ta tv : TE}
end
section
variable {X : Cx} {pins : List (Addr × Obj)} {σ : St} {H : Hp} {s : Shared} {A : Around} {E : Value → Shared → Prop} {Q : Value → Shared → Prop} {c : Value} {b : Bool}
inductive TyOf (K:PySem.W.Frag) (H:Hp):V→Value→Prop where
 |non:TyOf K H .non (.type "NoneType")
 |bl (x:Bool):TyOf K H (.bl x) (.type "bool")
 |int (i:Int):TyOf K H (.int i) (.type "int")
 |str (x:Str):TyOf K H (.str x) (.type "str")
 |flt (x:UInt64):TyOf K H (.flt x) (.type "float")
 |lst {a:Addr}{xs:List V}(e:H a=some (.lst xs)):TyOf K H (.ref a) (.type "list")
 |frz {a:Addr}{o:Obj}{xs:List V}(e:H a=some (.frz o (.lst xs))):TyOf K H (.ref a) (.type "list")
 |tup {a:Addr}{xs:List V}(e:H a=some (.tup xs)):TyOf K H (.ref a) (.type "tuple")
 |dK {a:Addr}{kvs:List (Key×V)}(e:H a=some (.dK kvs)):TyOf K H (.ref a) (.type "dict")
 |dT {a:Addr}{kvs:List (List Key×V)}(e:H a=some (.dT kvs)):TyOf K H (.ref a) (.type "dict")
 |ins {a C dx:Addr}{fs:List (Str×V)}(e:H a=some (.ins C dx fs)) (cl:Cls K C) (ha:PySem.W.findIn K (.ref C) "__class__"=some (some (.builtin "object.__class__")))
   (hn:PySem.W.specialIn K (.builtin "object.__class__") "__get__"=some (some (.builtin "getset_descriptor.__get__"))) (htk:PySem.W.takesIn K (.builtin "object.__class__")=some true)
   (hm:PySem.W.mroIn K C (.type "object")=some true):TyOf K H (.ref a) (.ref C)
theorem kW {x:V}{u t:Value}(I:Inv X pins σ H s) (rx:RelV x u) (ty:TyOf X.K H x t) (e:PySem.W.kitOne X.K t c=some b) (h:∀tk,Q (.bool b) {s with toks:=tk}):
 wpAny (model X.prog X.w) A (call (.builtin "isinstance") [u,c]) Q E s:=by
 cases ty with
 |non=>cases (show u=Value.none from rx);exact PySem.W.kia_one PySem.W.kitx_none I.kIn True.intro e (fun z=>nomatch z) h
 |bl y=>cases (show u=Value.bool y from rx);exact PySem.W.kia_one PySem.W.kitx_bool I.kIn True.intro e (fun z=>nomatch z) h
 |int i=>obtain⟨t,q⟩:=(show∃t,u=Value.int i t from rx);cases q;exact PySem.W.kia_one PySem.W.kitx_int I.kIn True.intro e (fun z=>nomatch z) h
 |str y=>obtain⟨t,q⟩:=(show∃t,u=Value.str y t from rx);cases q;exact PySem.W.kia_one PySem.W.kitx_str I.kIn True.intro e (fun z=>nomatch z) h
 |flt y=>obtain⟨t,q⟩:=(show∃t,u=Value.float y t from rx);cases q;exact PySem.W.kia_one PySem.W.kitx_float I.kIn True.intro e (fun z=>nomatch z) h
 | @lst a xs ea=>
   cases (show u=Value.ref a from rx)
   obtain⟨_,_,n,_,h1⟩:=(show ObjOk X.prog X.w H s.heap a (.lst xs) from I.hok a _ ea)
   exact PySem.W.kia_one PySem.W.kitx_list I.kIn ⟨_,h1,rfl⟩ e (fun z=>nomatch z) h
 | @frz a ob xs ea=>
   cases (show u=Value.ref a from rx)
   obtain⟨_,_,_,n,_,h1⟩:=(show ObjOk X.prog X.w H s.heap a (.frz ob (.lst xs)) from I.hok a _ ea)
   exact PySem.W.kia_one PySem.W.kitx_list I.kIn ⟨_,h1,rfl⟩ e (fun z=>nomatch z) h
 | @tup a xs ea=>
   cases (show u=Value.ref a from rx)
   obtain⟨_,_,_,p⟩:=(show ObjOk X.prog X.w H s.heap a (.tup xs) from I.hok a _ ea)
   obtain⟨o,h1,h2,_⟩:=p
   exact PySem.W.kia_one PySem.W.kitx_tuple I.kIn ⟨o,h1,h2⟩ e (fun z=>nomatch z) h
 | @dK a kvs ea=>
   cases (show u=Value.ref a from rx)
   obtain⟨_,_,vs,_,p⟩:=(show ObjOk X.prog X.w H s.heap a (.dK kvs) from I.hok a _ ea)
   obtain⟨o,es,ep,h1,h2,_⟩:=p
   exact PySem.W.kia_one PySem.W.kitx_dict I.kIn ⟨o,h1,h2.1⟩ e (fun z=>nomatch z) h
 | @dT a kvs ea=>
   cases (show u=Value.ref a from rx)
   obtain⟨_,_,xs,_,o,es,ep,h1,h2,_⟩:=(show ObjOk X.prog X.w H s.heap a (.dT kvs) from I.hok a _ ea)
   exact PySem.W.kia_one PySem.W.kitx_dict I.kIn ⟨o,h1,h2.1⟩ e (fun z=>nomatch z) h
 | @ins a C dx fs ea cl ha hn htk hm=>
   cases (show u=Value.ref a from rx)
   obtain⟨mA,O,_⟩:=m8 I.hok ea
   obtain⟨od,J,_⟩:=O.look
   exact PySem.W.kia_one (PySem.W.kitx_own (cl.get _) cl.hd ha hn htk hm) I.kIn J e (fun z=>nomatch z) h
end
end L2
namespace L2
open PySem PySem.Spec PyProof.Rows
structure Room (k:Nat) (A:Around):Prop where
 hd:A.handled=none
 dp:A.depth+3*k+5<recursionLimit
 un:A.units+16*k+200<cLine
theorem Room.mono {j k:Nat}{A:Around}(r:Room k A) (h:j≤k):Room j A:=⟨r.hd,by have:=r.dp;omega,by have:=r.un;omega⟩
theorem Room.deeper {k:Nat}{A:Around}(r:Room (k+1) A) (env:Env):Room k (A.deeper env):=
 ⟨r.hd,by have:=r.dp;show A.depth+1+3*k+5<_;omega,by have:=r.un;show A.units+3+16*k+200<_;omega⟩
theorem Room.depth {k:Nat}{A:Around}(r:Room k A):A.depth<recursionLimit:=by have:=r.dp;omega
theorem Room.units {k:Nat}{A:Around}(r:Room k A):A.units+64<cLine:=by have:=r.un;omega
def qx:TA:=fun _ H Q=>Q [] H
def oI (ta:TE) (tr:TA):TA:=fun σ H Q=>ta σ H fun x H1=>tr σ H1 fun xs H2=>Q (x::xs) H2
section
variable {X : Cx} {e : Expr} {es : List Expr} {te : TE} {t : TA} {pos : Pos}
theorem l9:PA X [] qx:=fun _ _ _ _ H Q I h=>Calls.spliced_nil ⟨[],H,I, .nil,h⟩
theorem kh (ha:PE X e te) (hr:PA X es t) (hs:starEach (e::es) X.env=(false,eval e X.env)::starEach es X.env:=by rfl):PA X (e::es) (oI te t):=by
 intro pos pins s σ H Q I h
 rw[hs]
 show wpAny _ _ (spliced ((false,eval e X.env)::backTo pos (starEach es X.env))) _ _ s
 refine Calls.spliced_cons (thn (ha pins s σ H _ I h) fun u s1 ⟨x,H1,I1,r1,q1⟩=>?_)
 exact thn (hr pos pins s1 σ H1 _ I1 q1) fun us s2 ⟨xs,H2,I2,r2,q2⟩=>⟨x::xs,H2,I2, .cons r1 r2,q2⟩
def qX (t:TA):TE:=fun σ H Q=>t σ H fun xs H1=>xs.length≤sizeLine∧∀p,H1 p=none→Q (.ref p) (upd H1 p (.tup xs))
def qT (t:TA):TE:=fun σ H Q=>t σ H fun xs H1=>xs.length≤sizeLine∧∀p,H1 p=none→Q (.ref p) (upd H1 p (.lst xs))
theorem pE {x1} (h:PA X es t):PE X (.Tuple es x1 pos) (qX t):=by
 intro pins s σ H Q I hq
 refine wpAny_Tuple_spliced (thn (h pos pins s σ H _ I hq) fun us s1 ⟨xs,H1,I1,r,z,q⟩=>⟨by rw[←r.length];exact z,?_⟩)
 have hf:H1 s1.heap.objs.size=none:=I1.hok.fresh (Nat.le_refl _)
 refine⟨.ref s1.heap.objs.size,upd H1 s1.heap.objs.size (.tup xs),I1.laid (t':=s1.toks) (fun b u e=>Heap.get?_push_of_some _ e) (Nat.le_refl _) ?_,rfl,q _ hf⟩
 exact⟨z,us,r,⟨_,Heap.get?_push_size _ rfl,rfl,_,rfl⟩⟩
theorem ml (h:PA X es t):PE X (.List es pos) (qT t):=by
 intro pins s σ H Q I hq
 refine wpAny_List_spliced (thn (h pos pins s σ H _ I hq) fun us s1 ⟨xs,H1,I1,r,z,q⟩=>⟨by rw[←r.length];exact z,?_⟩)
 have hf:H1 s1.heap.objs.size=none:=I1.hok.fresh (Nat.le_refl _)
 refine⟨.ref s1.heap.objs.size,upd H1 s1.heap.objs.size (.lst xs),I1.laid (t':=s1.toks) (fun b u e=>Heap.get?_push_of_some _ e) (Nat.le_refl _) ?_,rfl,q _ hf⟩
 exact⟨z,us,0,r,Heap.get?_push_size _ rfl⟩
end
abbrev Sp:=List V→Hp→VK→XK→Prop
abbrev CXT:=List Env→Hp→Shared→XK→Value→Shared→Prop
structure Env0 (P:Program) (w:World) (K:PySem.W.Frag) (mg:Str→Option Value) (base:Heap) (A:Around) (outer:List Env) (s:Shared) (H:Hp):Prop where
 frames:A.frames=some outer
 mod:Mod K mg base
 bs:∀b o,base.get? b=some o→s.heap.get? b=some o∧H b=none
 bsz:base.objs.size≤s.heap.objs.size
 funs:s.heap.FunFrames base outer
 frf:∀b∈frs outer,H b=none
 hok:HOk P w H s.heap
 bare:AllBare s.gens
def CE (outer:List Env) (P:Program) (w:World) (H:Hp) (s:Shared) (Q:VK) (u:Value) (s':Shared):Prop:=
 ∃v H',s'.os=s.os∧AllBare s'.gens∧Un (frs outer) [] H H' s.heap s'.heap∧HOk P w H' s'.heap∧RelV v u∧Q v H'
def CR (CX:CXT) (outer:List Env) (P:Program) (w:World) (H:Hp) (s:Shared) (Q:VK) (E:XK) (r:Result) (s':Shared):Prop:=
 match r with
 | .ok (.ret u)=>CE outer P w H s Q u s'
 | .ok _=>False
 | .error e=>CX outer H s E e s'
structure FnOk (P:Program) (w:World) (K:PySem.W.Frag) (mg:Str→Option Value) (base:Heap) (CX:CXT) (k:Nat) (f:Addr) (fd:FuncData) (ps:List Str) (sp:Sp):Prop where
 len:∀vs H Q E,sp vs H Q E→vs.length=ps.length
 run:∀(A:Around) (outer:List Env) (s:Shared) (H:Hp) (args:Args) (us:List Value) (vs:List V) (Q:VK) (E:XK),Room k A→Env0 P w K mg base A outer s H→BindsTo s fd args (ps.zip us)→Vals vs us→sp vs H Q E→
  codeAny (model P w) A (.call (.ref f) args) (CR CX outer P w H s Q E) s
section
variable {X : Cx} {pins : List (Addr × Obj)} {σ : St} {H : Hp} {s s' : Shared}
theorem Inv.env0 (I:Inv X pins σ H s):Env0 X.prog X.w X.K X.mg X.base X.A X.stack s H:=
 ⟨I.ok.frames,I.ok.mod,I.bs,Nat.le_trans I.ok.bsz I.sz,I.stack,I.stkFree,I.hok,I.bare⟩
theorem Inv.after {Q:VK}{u:Value}(I:Inv X pins σ H s) (h:CE X.stack X.prog X.w H s Q u s'):EP X pins σ Q u s':=by
 obtain⟨v,H',os,bare,un,hok,r,q⟩:=h
 obtain⟨hh,g,d,t,os'⟩:=s'
 obtain rfl:os'=s.os:=os
 exact⟨v,H',I.call (h':=hh) (g':=g) (d':=d) (t':=t) (ch:=[]) un hok bare (fun b z=>absurd z (by simp)),r,q⟩
end
def qu (sp:Sp) (dvs:List V) (E:XK) (t:TA):TE:=fun σ H Q=>t σ H fun vs H1=>sp (vs++dvs) H1 Q E
def Binds (K:PySem.W.Frag) (fd:FuncData) (ps:List Str) (ds:List Value):Prop:=
 ∀(s:Shared) (us:List Value),K.In s.heap→(us++ds).length=ps.length→BindsTo s fd ⟨us,[]⟩ (ps.zip (us++ds))
theorem Binds.all {K:PySem.W.Frag}{fd:FuncData}{ps:List Str}(h:∀us:List Value,us.length=ps.length→bindArgs fd ⟨us,[]⟩=pure (ps.zip us)):Binds K fd ps []:=fun s us _ hl=>by
 rw[List.append_nil] at hl⊢
 exact .of_eq (h us hl)
def cK (CX:CXT) (X:Cx) (E:XK):Prop:=∀(pins:List (Addr×Obj)) (σ:St) (H:Hp) (s:Shared) (e:Value) (s':Shared),Inv X pins σ H s→CX X.stack H s E e s'→X.xe e s'
section
variable {X : Cx} {CX : CXT} {k : Nat} {f C : Addr} {fd : FuncData} {ps : List Str} {sp : Sp} {dvs : List V} {ds : List Value} {E : XK} {x m : Str} {p pos apos : Pos} {e o : Expr} {es : List Expr} {ta : TE} {t : TA}
theorem pQ {pins:List (Addr×Obj)}{σ:St}{H:Hp}{s:Shared}{Q:VK}{us:List Value}{vs:List V}(F:FnOk X.prog X.w X.K X.mg X.base CX k f fd ps sp) (hr:Room k X.A) (hb:Binds X.K fd ps ds) (hd:Vals dvs ds) (hx:cK CX X E)
 (I:Inv X pins σ H s) (r:Vals vs us) (h:sp (vs++dvs) H Q E):wpAny (model X.prog X.w) X.A (call (.ref f) us) (EP X pins σ Q) X.xe s:=by
 have r2:Vals (vs++dvs) (us++ds):=r.append hd
 have hl:(us++ds).length=ps.length:=by rw[←r2.length];exact F.len _ _ _ _ h
 refine wpAny_call (codeAny_mono (F.run X.A X.stack s H ⟨us,[]⟩ (us++ds) (vs++dvs) Q E hr I.env0 (hb s us I.kIn hl) r2 h) fun r s' hq=>?_)
 cases r with
 |error e=>exact hx pins σ H s e s' I hq
 |ok fl=>
  cases fl with
  |ret u=>exact I.after hq
  |next=>exact False.elim hq
  |brk=>exact False.elim hq
  |cont=>exact False.elim hq
theorem nQ (F:FnOk X.prog X.w X.K X.mg X.base CX k f fd ps sp) (hr:Room k X.A) (hg:Gl X x) (hm:X.mg x=some (.ref f)) (hk:PySem.W.keepIn X.K (.ref f)=true) (hb:Binds X.K fd ps ds) (hd:Vals dvs ds) (hx:cK CX X E)
 (ha:PA X (e::es) t) (hdb:(x==("__debug__":Str))=false:=by decide) (he:starEach (e::es) X.env=(false,eval e X.env)::starEach es X.env:=by rfl) (hpl:(backTo pos (starEach es X.env)).any (·.1)=false:=by rfl):
 PE X (.Call (.Name x p) (e::es) [] pos) (qu sp dvs E t):=by
 intro pins s σ H Q I h
 refine wpAny_Call_Name_kw (eV I hg hm ?_ hdb)
 refine PySem.W.callWith_K (h₀:=X.base) I.ok.mod.kin hk (thn (ha pos pins s σ H _ I h) fun us s1 ⟨vs,H1,I1,r,q⟩=>⟨I1.kIn,?_⟩) he hpl
 exact pQ F hr hb hd hx I1 r q
structure Mk (K:PySem.W.Frag) (C f:Addr):Prop where
 makes:PySem.W.makesIn K C=true
 init:PySem.W.findIn K (.ref C) "__init__"=some (some (.ref f))
 fn:PySem.W.isFn K (.ref f)=true
 kp:PySem.W.keepIn K (.ref C)=true
end
section
variable {X : Cx} {CX : CXT} {k : Nat} {f C : Addr} {fd : FuncData} {ps ks : List Str} {sp : Sp} {E : XK} {x m : Str} {p pos apos kpos : Pos} {e o : Expr} {es : List Expr} {kws : List Keyword} {te ta : TE} {t tk : TA} {nm : Option Str}
structure KBinds (K:PySem.W.Frag) (fd:FuncData) (ps ks:List Str) (g:List Value→List Value→List Value) (gV:List V→List V→List V):Prop where
 to:∀(s:Shared) (us ws:List Value),K.In s.heap→(g us ws).length=ps.length→BindsTo s fd ⟨us,ks.zip ws⟩ (ps.zip (g us ws))
 rel:∀{vs:List V}{us:List Value}{zs:List V}{ws:List Value},Vals vs us→Vals zs ws→Vals (gV vs zs) (g us ws)
variable {g : List Value → List Value → List Value} {gV : List V → List V → List V}
end
structure FnScope (N P:List Str) (sc:Scope):Prop where
 kind:sc.kind= .function
 co:sc.isCoroutine=false
 gen:sc.isGenerator=false
 nd:N.Nodup
 pre:N.take P.length=P
 par:∀x∈P,sc.names.lookup x=some .local∨sc.names.lookup x=some .cell
 nofree:∀y∈sc.names,y.2≠ .free
theorem gi {kindOf:Str→Option NameKind}{x:Str}:∀{binds:List (Str×Value)}{m:Str→Option Value},(∀v,(x,v)∉binds)→bindL kindOf binds m x=m x
 |[],_,_=>rfl
 |(n,v)::r,m,h=>by
  unfold bindL
  rw[gi fun w hw=>h w (List.mem_cons_of_mem _ hw)]
  split
  ·have:x≠n:=by rintro rfl;exact h v List.mem_cons_self
   simp[this]
  ·rfl
theorem gg {kindOf:Str→Option NameKind}{x:Str}:∀{binds:List (Str×Value)}{m:Str→Option Value},(∀v,(x,v)∉binds)→bindC kindOf binds m x=m x
 |[],_,_=>rfl
 |(n,v)::r,m,h=>by
  unfold bindC
  rw[gg fun w hw=>h w (List.mem_cons_of_mem _ hw)]
  split
  ·rfl
  ·have:x≠n:=by rintro rfl;exact h v List.mem_cons_self
   simp[this]
theorem gh {kindOf:Str→Option NameKind}{x:Str}{v:Value}:∀{P:List Str}{vs:List Value}{i:Nat}{m:Str→Option Value},P.Nodup→P[i]? =some x→vs[i]? =some v→kindOf x=some .local→
 bindL kindOf (P.zip vs) m x=some v
 |[],_,_,_,_,h,_,_=>by simp at h
 |_::_,[],_,_,_,_,h,_=>by simp at h
 |p::P,w::vs,0,m,nd,h1,h2,hk=>by
  simp at h1 h2;subst h1;subst h2
  show bindL kindOf ((p,w)::P.zip vs) m p=_
  unfold bindL
  rw[gi fun v hv=>(List.nodup_cons.mp nd).1 (List.of_mem_zip hv).1,if_pos hk]
  simp
 |p::P,w::vs,i+1,m,nd,h1,h2,hk=>by
  show bindL kindOf ((p,w)::P.zip vs) m x=_
  unfold bindL
  exact gh (i:=i) (List.nodup_cons.mp nd).2 (by simpa using h1) (by simpa using h2) hk
theorem gf {kindOf:Str→Option NameKind}{x:Str}{v:Value}:∀{P:List Str}{vs:List Value}{i:Nat}{m:Str→Option Value},P.Nodup→P[i]? =some x→vs[i]? =some v→kindOf x≠some .local→
 bindC kindOf (P.zip vs) m x=some v
 |[],_,_,_,_,h,_,_=>by simp at h
 |_::_,[],_,_,_,_,h,_=>by simp at h
 |p::P,w::vs,0,m,nd,h1,h2,hk=>by
  simp at h1 h2;subst h1;subst h2
  show bindC kindOf ((p,w)::P.zip vs) m p=_
  unfold bindC
  rw[gg fun v hv=>(List.nodup_cons.mp nd).1 (List.of_mem_zip hv).1,if_neg hk]
  simp
 |p::P,w::vs,i+1,m,nd,h1,h2,hk=>by
  show bindC kindOf ((p,w)::P.zip vs) m x=_
  unfold bindC
  exact gf (i:=i) (List.nodup_cons.mp nd).2 (by simpa using h1) (by simpa using h2) hk
def start (N:List Str) (vs:List V):St:=vs.map some++List.replicate (N.length - vs.length) none
def av (CX:CXT) (P:Program) (w:World) (K:PySem.W.Frag) (mg:Str→Option Value) (base:Heap) (N:List Str) (qual:Str) (scope:Scope) (f:Addr) (cd:Value) (A:Around) (outer:List Env) (s:Shared) (H:Hp) (E:XK):Cx where
 prog:=P
 w:=w
 K:=K
 mg:=mg
 base:=base
 A:=A.deeper (envOfC qual scope s.heap.objs.size f cd)
 N:=N
 s₀:=s
 H₀:=H
 env:=envOfC qual scope s.heap.objs.size f cd
 outer:=outer
 stack:=envOfC qual scope s.heap.objs.size f cd::outer
 ex:=[]
 calm:=true
 fn:=fun _=>true
 pn:=[]
 xe:=fun e s'=>wpAny (model P w) (A.deeper (envOfC qual scope s.heap.objs.size f cd)) (leaving (envOfC qual scope s.heap.objs.size f cd) e) (fun _ s''=>CX outer H s E e s'') (fun e' s''=>CX outer H s E e' s'') s'
theorem iH {sc:Scope}{n:Nat}{x:Str}(h:sc.names.lookup x=some .cell):∃c,(cellsFrom n sc.names []).lookup x=some c:=by
 have q:=PySem.W.cellsFrom_some sc.names n [] (.inl h)
 exact Option.isSome_iff_exists.mp q
theorem kS {CX:CXT}{P:Program}{w:World}{K:PySem.W.Frag}{mg:Str→Option Value}{base:Heap}{N ps:List Str}{qual:Str}{scope:Scope}{f:Addr}{cd:Value}{A:Around}{outer:List Env}{s s1:Shared}{H:Hp}{E:XK}{us:List Value}{vs:List V}
 (S:FnScope N ps scope) (hd:A.handled=none) (e0:Env0 P w K mg base A outer s H) (hl:vs.length=ps.length) (r:Vals vs us)
 (x:InCallC s s.heap.objs.size (bindL (envOfC qual scope s.heap.objs.size f cd).kindOf (ps.zip us) fun _=>none) (cellsFrom (s.heap.objs.size+1) scope.names []) (bindC (envOfC qual scope s.heap.objs.size f cd).kindOf (ps.zip us) fun _=>none) s1):
 Inv (av CX P w K mg base N qual scope f cd A outer s H E) [] (start N vs) H s1:=by
 have hpl:ps.length≤N.length:=by have:=congrArg List.length S.pre;rw[List.length_take] at this;omega
 obtain⟨h1,tk,rfl,hk⟩:=x.done
 have noA:∀b:Addr,b∉(av CX P w K mg base N qual scope f cd A outer s H E).ex:=fun b z=>absurd (show b∈([]:List Addr) from z) (by simp)
 refine⟨⟨e0.mod,S.kind,rfl,rfl,Nat.le_refl _,fun y z c h1 h2=>?_,fun y hy=>?_,fun y c _ h=>?_,fun _=>hd,Around.frames_deeper e0.frames, .inr ⟨rfl,rfl⟩,fun b z=>absurd z (noA b),e0.bs,e0.bsz,fun b _ _=>noA b,fun b z=>absurd z (noA b),e0.funs,e0.frf⟩,
  rfl,e0.bare,Un.kept hk,⟨_,x.toInCall.ns,fun i y v h1 h2 h3=>?_⟩,fun y c h=>⟨_,x.cell y c h⟩,e0.hok.fresh (Nat.le_refl _),fun y c h=>?_,fun p hp=>absurd (show p∈([]:List (Addr×Obj)) from hp) (by simp),e0.hok.kept hk,?_⟩
 ·exact name_of_addr x.apart (PySem.mem_of_lookup h1) (PySem.mem_of_lookup h2)
 ·have hy:scope.names.lookup y=some .cell∨scope.names.lookup y=some .free:=hy
  rcases hy with hy | hy
  ·exact iH hy
  ·exact absurd rfl (S.nofree _ (PySem.mem_of_lookup hy))
 ·exact Nat.le_of_lt (x.above y c (PySem.mem_of_lookup h))
 ·have hi:i<vs.length:=by
   unfold start at h2
   by_cases hi:i<vs.length
   ·exact hi
   ·rw[List.getElem?_append_right (by simpa using hi)] at h2
    rw[List.getElem?_replicate] at h2
    split at h2<;>cases h2
  have ha:vs[i]? =some v:=by
   unfold start at h2
   rw[List.getElem?_append_left (by simpa using hi),List.getElem?_map] at h2
   cases e:vs[i]? with
   |none=>rw[e] at h2;cases h2
   |some a=>rw[e] at h2;cases h2;rfl
  obtain⟨u,hu,rv⟩:=r.get ha
  have hp:ps[i]? =some y:=by
   rw[←S.pre,List.getElem?_take_of_lt (by omega)];exact h1
  have ndP:ps.Nodup:=by rw[←S.pre];exact S.nd.sublist (List.take_sublist _ _)
  refine⟨u,rv,?_⟩
  rcases S.par y (List.mem_of_getElem? hp) with k | k
  ·exact .inl ⟨k,gh ndP hp hu k⟩
  ·obtain⟨c,e⟩:=iH (n:=s.heap.objs.size+1) k
   refine .inr ⟨.inl k,c,e,?_⟩
   have q:=x.cell y c e
   rw[gf ndP hp hu (by show scope.names.lookup y≠_;rw[k];decide)] at q
   exact q
 ·exact e0.hok.fresh (Nat.le_of_lt (x.above y c (PySem.mem_of_lookup h)))
 ·unfold start
  show _=N.length
  rw[List.length_append,List.length_map,List.length_replicate]
  omega
theorem p7 {CX:CXT}{P:Program}{w:World}{K:PySem.W.Frag}{mg:Str→Option Value}{base:Heap}{k:Nat}{f:Addr}{name qual:Str}{params:Arguments}{body:List Stmt}{scope:Scope}{dV kV doc pm cdv ct oc:Value}{an od:Option Addr}
 {osl:Array (Option Value)}{N ps:List Str}{sp:Sp}(lk:K.lookup f=some ⟨oc,od, .func (PySem.W.fnOf name qual params body scope dV kV doc pm an cdv ct),osl⟩) (hcd:PySem.W.codeIn K cdv qual=true) (S:FnScope N ps scope)
 (len:∀vs H Q E,sp vs H Q E→vs.length=ps.length)
 (hbody:∀(A:Around) (outer:List Env) (s:Shared) (H:Hp) (vs:List V) (Q:VK) (E:XK),Room k (A.deeper (envOfC qual scope s.heap.objs.size f cdv))→sp vs H Q E→
  ∃t,PSs (av CX P w K mg base N qual scope f cdv A outer s H E) body t∧t {nx:=fun _ H'=>Q .non H',rt:=Q} (start N vs) H):
 FnOk P w K mg base CX (k+1) f (PySem.W.fnOf name qual params body scope dV kV doc pm an cdv ct) ps sp:=by
 refine⟨len,fun A outer s H args us vs Q E hr e0 hb r hsp=>?_⟩
 have hl:=len _ _ _ _ hsp
 have KX:K.In s.heap:=e0.mod.kin.keeps fun b o e=>(e0.bs b o e).1
 have lim:s.heap.NoLimit:=e0.mod.nolimit.keeps fun b o e=>(e0.bs b o e).1
 have hkind:∀y∈ps.zip us,scope.names.lookup y.1=some .local∨(scope.names.lookup y.1=some .cell∧((cellsFrom (s.heap.objs.size+1) scope.names []).lookup y.1).isSome=true):=fun⟨n,v⟩ hy=>by
  rcases S.par n (List.of_mem_zip hy).1 with q | q
  ·exact .inl q
  ·exact .inr ⟨q,PySem.W.cellsFrom_some _ _ _ (.inl q)⟩
 refine codeAny_call_function hr.depth (KX _ _ lk) rfl S.co S.gen rfl (PySem.W.codeRec_of KX hcd) (hb _ _ _ _ ?_)
 refine wpAny_newFunctionEnv_cells S.kind hkind fun env he s1 x=>?_
 subst he
 refine⟨lim.keeps x.toInCall.keep,codeAny_func ?_⟩
 obtain⟨t,ht,hq⟩:=hbody A outer s H vs Q E (hr.deeper _) hsp
 have I:Inv (av CX P w K mg base N qual scope f cdv A outer s H E) [] (start N vs) H s1:=kS S hr.hd e0 hl r x
 refine wpAny_mono (ht [] s1 (start N vs) H _ I hq) (fun fl s' hs=>?_) fun e s' hs=>hs
 have fin:∀{σ':St}{H':Hp}{v:V}{u:Value},Inv (av CX P w K mg base N qual scope f cdv A outer s H E) [] σ' H' s'→RelV v u→Q v H'→CE outer P w H s Q u s':=
  fun {σ' H' v u} J rv q=>⟨v,H',J.os,J.bare,J.base,J.hok,rv,q⟩
 cases fl with
 |ret u=>
  obtain⟨v,σ',H',J,rv,q⟩:=hs
  exact fin J rv q
 |next=>
  obtain⟨σ',H',J,q⟩:=hs
  exact fin (v:=V.non) (u:=Value.none) J rfl q
 |brk=>
  obtain⟨_,_,_,q⟩:=hs
  exact False.elim q
 |cont=>
  obtain⟨_,_,_,q⟩:=hs
  exact False.elim q
end L2
namespace L2
open PySem PySem.Spec PyProof.Rows
section
variable {X : Cx} {x : Str} {p pos : Pos} {e : Expr} {es : List Expr} {t : TA} {id T : String} {r : List V → Hp → VK → Prop}
def tCB (r:List V→Hp→VK→Prop) (t:TA):TE:=fun σ H Q=>t σ H fun vs H1=>r vs H1 Q
theorem mi (hc:CallR X (.builtin id) r) (hg:Gl X x) (hm:X.mg x=none) (hv:bootBuiltins x=some (.builtin id)) (ha:PA X (e::es) t) (hn:x≠"__name__":=by decide) (hdb:(x==("__debug__":Str))=false:=by decide)
 (he:starEach (e::es) X.env=(false,eval e X.env)::starEach es X.env:=by rfl) (hpl:(backTo pos (starEach es X.env)).any (·.1)=false:=by rfl):PE X (.Call (.Name x p) (e::es) [] pos) (tCB r t):=by
 intro pins s σ H Q I h
 refine wpAny_Call_Name_kw (g0 I hg hm hv ?_ hn hdb)
 exact PyProof.Rows.callWith_builtin1 (thn (ha pos pins s σ H _ I h) fun us s1 ⟨vs,H1,I1,r1,q1⟩=>hc pins s1 σ H1 vs us Q I1 r1 q1) he hpl
theorem lh (hc:CallR X (.type T) r) (hg:Gl X x) (hm:X.mg x=none) (hv:bootBuiltins x=some (.type T)) (ha:PA X (e::es) t) (hn:x≠"__name__":=by decide) (hdb:(x==("__debug__":Str))=false:=by decide)
 (he:starEach (e::es) X.env=(false,eval e X.env)::starEach es X.env:=by rfl) (hpl:(backTo pos (starEach es X.env)).any (·.1)=false:=by rfl):PE X (.Call (.Name x p) (e::es) [] pos) (tCB r t):=by
 intro pins s σ H Q I h
 refine wpAny_Call_Name_kw (g0 I hg hm hv ?_ hn hdb)
 exact PyProof.Rows.callWith_type1 (thn (ha pos pins s σ H _ I h) fun us s1 ⟨vs,H1,I1,r1,q1⟩=>hc pins s1 σ H1 vs us Q I1 r1 q1) he hpl
end
end L2
namespace HT
open PySem PyProof.Rows
section
open PySem.SeqAt
open PySem.AutoSeq1 (wpAny_loadPart')
open PySem.MeetsSeq PySem.MeetsSeq2 PySem.MeetsSeq3
end
section
variable {prog : Program} {w : World} {A : Around} {E : Value → Shared → Prop} {s : Shared}
theorem cat_tup {t b:Addr}{vs ws:List Value}{Q:Value→Shared→Prop}(ht:IsTup s.heap t vs.toArray) (hb:IsTup s.heap b ws.toArray) (hv:vs≠[])
 (h1:ws=[]→Q (.ref t) s) (h2:ws≠[]→Q (.ref s.heap.objs.size) {s with heap:=s.heap.push {cls:= .type "tuple",data:= .seq (vs++ws).toArray} })
 (hsz:vs.length+ws.length≤sizeLine):wpAny (model prog w) A (binaryOp .Add (.ref t) (.ref b)) Q E s:=by
 obtain⟨⟨cls,dd,data,sl⟩,ho,hc,n,hd⟩:=id ht
 obtain⟨⟨cls2,dd2,data2,sl2⟩,ho2,hc2,n2,hd2⟩:=id hb
 simp only at hc hd hc2 hd2
 subst hc hd hc2 hd2
 have e:vs.toArray++ws.toArray=(vs++ws).toArray:=by simp
 by_cases hw:ws=[]
 ·exact concat_meets ⟨_,ho,rfl⟩ ⟨_,ho2,rfl⟩ noFill_tuple_add seq_tuple_add PySem.F.slot_tuple_add PySem.F.entry_tuple_add (PySem.F.args_tuple_add_2 _ _)
   (tuple_addW1 t b vs.toArray ws.toArray n n2 dd dd2 sl sl2 (by simpa using hv) (by simp[hw])) ⟨ho,ho2,h1 hw⟩
 ·refine concat_meets ⟨_,ho,rfl⟩ ⟨_,ho2,rfl⟩ noFill_tuple_add seq_tuple_add PySem.F.slot_tuple_add PySem.F.entry_tuple_add (PySem.F.args_tuple_add_2 _ _)
   (tuple_addW2 t b vs.toArray ws.toArray n n2 dd dd2 sl sl2 (by simpa using hv) (by simpa using hw) (by rw[List.size_toArray,List.size_toArray];exact hsz)) ⟨ho,ho2,?_⟩
  rw[e]
  exact h2 hw
def sIx (n d:Nat):Option Int→Nat
 |none=>d
 |some v=>if v<0 then(v+(n:Int)).toNat else min v.toNat n
theorem sIx_none (n d:Nat):sIx n d none=d:=rfl
theorem sIx_le (n d:Nat) (hd:d≤n) (o:Option Int):sIx n d o≤n:=by
 cases o with
 |none=>exact hd
 |some v=>
  show (if v<0 then(v+(n:Int)).toNat else min v.toNat n)≤n
  by_cases hv:v<0
  ·rw[if_pos hv];omega
  ·rw[if_neg hv];exact Nat.min_le_right _ _
theorem clip_eq (v:Int) (n d:Nat):(if v<0 then max (v+(n:Int)) 0 else min v (n:Int))=((sIx n d (some v):Nat):Int):=by
 show (if v<0 then max (v+(n:Int)) 0 else min v (n:Int))=(((if v<0 then(v+(n:Int)).toNat else min v.toNat n):Nat):Int)
 by_cases hv:v<0
 ·simp only[if_pos hv];omega
 ·simp only[if_neg hv];omega
theorem adjust_gen (lo hi:Option Int) (n:Nat):Builtin.Slice.sliceAdjust lo hi 1 (n:Int)=(((sIx n 0 lo:Nat):Int),((sIx n n hi:Nat):Int)):=by
 have h1:¬((1:Int)<0):=by omega
 unfold Builtin.Slice.sliceAdjust
 simp only[h1,if_false]
 refine Prod.ext ?_ ?_
 ·cases lo with
  |none=>rfl
  |some v=>exact clip_eq v n 0
 ·cases hi with
  |none=>rfl
  |some v=>exact clip_eq v n n
theorem places_gen (i j:Nat):Builtin.Slice.slicePlaces (i:Int) (j:Int) 1=j - i:=by
 unfold Builtin.Slice.slicePlaces
 have h1:(1:Int)>0:=by omega
 simp only[h1,if_true,Int.ediv_one]
 split<;>omega
theorem slicePart_ {v:Value}{o:Option Int}{Q:Option Int→Shared→Prop}(p:IsPart v o) (h:Q o s):wpAny (model prog w) A (Builtin.Slice.slicePartIndex v) Q E s:=by
 cases p with
 |none=>exact slicePart_none h
 |int i t=>exact slicePart_int h
theorem sliceApplied_gen {sl:Addr}{vl vu:Value}{lo hi:Option Int}{n:Nat}{Q:Int×Int×Nat→Shared→Prop}(hs:s.heap.IsSliceOf sl vl vu .none) (pl:IsPart vl lo) (pu:IsPart vu hi)
 (h:Q (((sIx n 0 lo:Nat):Int),1,sIx n n hi - sIx n 0 lo) s):wpAny (model prog w) A (Builtin.Slice.sliceApplied (.ref sl) (pure (n:Int))) Q E s:=by
 obtain⟨os,hos,hcs,hds⟩:=id hs
 unfold Builtin.Slice.sliceApplied Builtin.Slice.sliceFields
 refine wpAny_bind (wpAny_bind (wpAny_field hos hds (x:=vl) rfl (wpAny_bind (wpAny_field hos hds (x:=vu) rfl (wpAny_bind (wpAny_field hos hds (x:= .none) rfl (wpAny_pure ?_)))))))
 refine wpAny_bind (slicePart_none ?_)
 show wpAny _ _ (if ((1:Int)==0)=true then _ else _) _ _ s
 rw[if_neg (by decide)]
 refine wpAny_bind (slicePart_ pl (wpAny_bind (slicePart_ pu (wpAny_bind (wpAny_pure ?_)))))
 show wpAny _ _ (match Builtin.Slice.sliceAdjust lo hi 1 (n:Int) with | (lo,hi)=>pure (lo,(1:Int),Builtin.Slice.slicePlaces lo hi 1)) _ _ s
 rw[adjust_gen lo hi n]
 show wpAny _ _ (pure (((sIx n 0 lo:Nat):Int),(1:Int),Builtin.Slice.slicePlaces ((sIx n 0 lo:Nat):Int) ((sIx n n hi:Nat):Int) 1)) _ _ s
 rw[places_gen]
 exact wpAny_pure h
theorem pick_gen (xs:Array Value) (i k:Nat):((List.range k).filterMap fun(m:Nat)=>xs[((i:Int)+(m:Int)*1).toNat]?).toArray=((xs.toList.drop i).take k).toArray:=by
 have e:(fun (m:Nat)=>xs[((i:Int)+(m:Int)*1).toNat]?)=fun m=>xs[i+m]? :=by
  funext m
  have:((i:Int)+(m:Int)*1).toNat=i+m:=by omega
  rw[this]
 rw[e]
 have:=pick_run xs i k
 rw[List.filterMap_map] at this
 have e2:((fun x=>xs[x]?)∘fun x=>i+x)=fun m=>xs[i+m]? :=rfl
 rw[e2] at this
 rw[this]
theorem getItem_tuple_cut {t sl:Addr}{items:Array Value}{vl vu:Value}{lo hi:Option Int}{Q:Value→Shared→Prop}(ht:IsTup s.heap t items) (hs:s.heap.IsSliceOf sl vl vu .none) (pl:IsPart vl lo) (pu:IsPart vu hi)
 (hw:¬(sIx items.size 0 lo=0∧sIx items.size items.size hi=items.size))
 (h:Q (.ref s.heap.objs.size) {s with heap:=s.heap.push {cls:= .type "tuple",data:= .seq ((items.toList.drop (sIx items.size 0 lo)).take (sIx items.size items.size hi - sIx items.size 0 lo)).toArray} })
 (hsz:items.size≤sizeLine):wpAny (model prog w) A (getItem (.ref t) (.ref sl)) Q E s:=by
 have htake:sizeOk (.seq ((items.toList.drop (sIx items.size 0 lo)).take (sIx items.size items.size hi - sIx items.size 0 lo)).toArray):=by
  show ((items.toList.drop (sIx items.size 0 lo)).take (sIx items.size items.size hi - sIx items.size 0 lo)).toArray.size≤sizeLine
  rw[List.size_toArray,List.length_take,List.length_drop,Array.length_toList]
  omega
 have hj:sIx items.size items.size hi≤items.size:=sIx_le _ _ (Nat.le_refl _) hi
 obtain⟨os,hos,hcs,hds⟩:=id hs
 have hTs:s.TypeIs (.ref sl) "slice":=⟨os,hos,hcs⟩
 unfold getItem
 try with_reducible refine wpAny_holding ?_
 first | refine wpAny_bind (wpAny_pure ?_) | skip
 refine wpAny_bind (wpAny_sequenceKey ht.typeIs (by decide) ?_)
 refine wpAny_bind (wpAny_callSpecial?_slot (name:=Str.ofString "__getitem__") ht.typeIs PyProof.Rows.slot_tuple_getitem
  (wpAny_call_entry PyProof.Rows.slot_tuple_getitem ht.typeIs entry_tuple_getitem ?_ (args_tuple_getitem _ _)))
 show wpAny _ _ (Builtin.Tuple.tupleItemsOf (.ref t)>>=_) _ _ s
 refine wpAny_bind (tupleItemsOf_ ht ?_)
 refine wpAny_bind (wpAny_typeOf hTs ?_)
 rw[if_pos (by decide)]
 refine wpAny_bind (sliceApplied_gen hs pl pu ?_)
 have hno:¬((((sIx items.size 0 lo:Nat):Int)==0&&(1:Int)==1&&(sIx items.size items.size hi - sIx items.size 0 lo)==items.size)=true):=by
  intro q
  rw[Bool.and_eq_true,Bool.and_eq_true] at q
  have q1:((sIx items.size 0 lo:Nat):Int)=0:=eq_of_beq q.1.1
  have q2:sIx items.size items.size hi - sIx items.size 0 lo=items.size:=eq_of_beq q.2
  exact hw ⟨by omega,by omega⟩
 show wpAny _ _ (if (((sIx items.size 0 lo:Nat):Int)==0&&(1:Int)==1&&(sIx items.size items.size hi - sIx items.size 0 lo)==items.size)=true then _ else _) _ _ s
 rw[if_neg hno,pick_gen]
 first
  |exact wpAny_bind (m:=Builtin.Tuple.tupleExact _) (wpAny_newObj_type (wpAny_pure ⟨_,rfl,wpAny_pure h⟩) htake)
  |exact wpAny_bind (m:=Builtin.Tuple.tupleExact _) (wpAny_newObj_type (wpAny_bind (wpAny_pure (wpAny_pure ⟨_,rfl,wpAny_pure h⟩))) htake)
  |exact wpAny_bind (wpAny_bind (m:=Builtin.Tuple.tupleExact _) (wpAny_newObj_type (wpAny_pure (wpAny_pure ⟨_,rfl,wpAny_pure h⟩)) htake))
  |exact wpAny_bind (wpAny_bind (m:=Builtin.Tuple.tupleExact _) (wpAny_newObj_type (wpAny_pure ⟨_,rfl,wpAny_pure h⟩) htake))
end
end HT
namespace L2
open PySem PySem.Spec PyProof.Rows
abbrev TO:=St→Hp→(Option Int→Hp→Prop)→Prop
def PO (X:Cx) (e:Option Expr) (t:TO):Prop:=
 ∀(pins:List (Addr×Obj)) (s:Shared) (σ:St) (H:Hp) (Q:Option Int→Hp→Prop),Inv X pins σ H s→t σ H Q→
  wpAny (model X.prog X.w) X.A (evalPart e X.env) (fun u s'=>∃o H',Inv X pins σ H' s'∧IsPart u o∧Q o H') X.xe s
def oq:TO:=fun _ H Q=>Q none H
def qy (t:TE):TO:=fun σ H Q=>t σ H fun x H1=>∃i,x= .int i∧Q (some i) H1
section
variable {X : Cx} {e : Expr} {te : TE} {lo hi : Option Expr} {tl th : TO} {pos p2 : Pos}
theorem nU:PO X none oq:=by
 intro pins s σ H Q I h
 rw[evalPart_none]
 exact wpAny_pure ⟨none,H,I, .none,h⟩
theorem nV (h:PE X e te):PO X (some e) (qy te):=by
 intro pins s σ H Q I hw
 rw[evalPart_some]
 refine thn (h pins s σ H _ I hw) fun u s1 ⟨x,H1,I1,r1,q1⟩=>?_
 obtain⟨i,rfl,q⟩:=q1
 obtain⟨t,rfl⟩:=r1
 exact⟨some i,H1,I1, .int i t,q⟩
def SlR (X:Cx) (r:V→Option Int→Option Int→Hp→VK→Prop):Prop:=
 ∀(pins:List (Addr×Obj)) (s:Shared) (σ:St) (H:Hp) (x:V) (v vl vu:Value) (lo hi:Option Int) (sl:Addr) (Q:VK),Inv X pins σ H s→RelV x v→s.heap.IsSliceOf sl vl vu .none→IsPart vl lo→IsPart vu hi→r x lo hi H Q→
  ∃T id,typeLookup (.type T) "__getitem__"=pure (some (.builtin id))∧s.TypeIs v T∧wpAny (model X.prog X.w) X.A (getItem v (.ref sl)) (EP X pins σ Q) X.xe s
theorem SlR.or {r r':V→Option Int→Option Int→Hp→VK→Prop}(h:SlR X r) (h':SlR X r'):SlR X (fun x lo hi H Q=>r x lo hi H Q∨r' x lo hi H Q):=by
 intro pins s σ H x v vl vu lo hi sl Q I rx hs pl pu q
 rcases q with q | q
 ·exact h pins s σ H x v vl vu lo hi sl Q I rx hs pl pu q
 ·exact h' pins s σ H x v vl vu lo hi sl Q I rx hs pl pu q
def tSl (r:V→Option Int→Option Int→Hp→VK→Prop) (te:TE) (tl th:TO):TE:=fun σ H Q=>te σ H fun x H1=>tl σ H1 fun l H2=>th σ H2 fun u H3=>r x l u H3 Q
theorem mn {r:V→Option Int→Option Int→Hp→VK→Prop}(hr:SlR X r) (he:PE X e te) (hl:PO X lo tl) (hu:PO X hi th):PE X (.Subscript e (.Slice lo hi none p2) pos) (tSl r te tl th):=by
 intro pins s σ H Q I h
 refine Subscript_ (thn (he pins s σ H _ I h) fun v s1 ⟨x,H1,I1,r1,q1⟩=>?_)
 refine wpAny_Slice (thn (hl pins s1 σ H1 _ I1 q1) fun vl s2 ⟨l,H2,I2,pl,q2⟩=>thn (hu pins s2 σ H2 _ I2 q2) fun vu s3 ⟨u,H3,I3,pu,q3⟩=>?_)
 rw[evalPart_none]
 refine wpAny_pure ?_
 have I4:Inv X pins σ H3 {s3 with heap:=s3.heap.push {cls:= .type "slice",data:= .fields #[vl,vu, .none]} }:=I3.kept (t':=s3.toks) fun b ob q=>Heap.get?_push_of_some _ q
 obtain⟨T,id,hT,ht,hg⟩:=hr pins {s3 with heap:=s3.heap.push {cls:= .type "slice",data:= .fields #[vl,vu, .none]} } σ H3 x v vl vu l u s3.heap.objs.size Q I4 r1 (Heap.IsSliceOf.new ..) pl pu q3
 show wpAny (model X.prog X.w) X.A (subscriptTail e (.Slice lo hi none p2) v (.ref s3.heap.objs.size)) (EP X pins σ Q) X.xe {s3 with heap:=s3.heap.push {cls:= .type "slice",data:= .fields #[vl,vu, .none]} }
 exact tail_any (ops:=[.ref s3.heap.objs.size,v]) ht hT hg (by with_unfolding_all rfl)
def iK (xs:List V) (lo hi:Option Int):List V:=(xs.drop (HT.sIx xs.length 0 lo)).take (HT.sIx xs.length xs.length hi - HT.sIx xs.length 0 lo)
theorem ei (xs:List V) (lo hi:Option Int):(iK xs lo hi).length≤xs.length:=by
 unfold iK
 rw[List.length_take,List.length_drop]
 omega
def qO (K:PySem.W.Frag):V→Option Int→Option Int→Hp→VK→Prop:=fun x lo hi H Q=>∃a xs,x= .ref a∧SqT K H a xs∧
 ¬(HT.sIx xs.length 0 lo=0∧HT.sIx xs.length xs.length hi=xs.length)∧∀p,H p=none→Q (.ref p) (upd H p (.tup (iK xs lo hi)))
theorem pU:SlR X (qO X.K):=by
 intro pins s σ H x v vl vu lo hi sl Q I rx hs pl pu h
 obtain⟨a,xs,rfl,hx,hw,q⟩:=h
 cases rx
 obtain⟨its,r,ht,hz⟩:=I.tuple hx
 have hlen:its.toArray.size=xs.length:=by rw[List.size_toArray];exact r.length.symm
 refine⟨"tuple",_,PyProof.Rows.slot_tuple_getitem.lookup,ht.typeIs,?_⟩
 refine HT.getItem_tuple_cut ht hs pl pu (by rw[hlen];exact hw) ?_ (by rw[hlen];exact hz)
 rw[hlen]
 refine⟨.ref s.heap.objs.size,_,I.laid (t':=s.toks) (o:= .tup (iK xs lo hi)) (fun b ob q=>Heap.get?_push_of_some _ q) (Nat.le_refl _) ?_,rfl,q _ (I.hok.fresh (Nat.le_refl _))⟩
 exact⟨Nat.le_trans (ei xs lo hi) hz,_,(r.drop (HT.sIx xs.length 0 lo)).take (HT.sIx xs.length xs.length hi - HT.sIx xs.length 0 lo),IsTup.new _ _⟩
def qi (K:PySem.W.Frag):R2:=fun x y H Q=>∃a b xs ys,x= .ref a∧y= .ref b∧SqT K H a xs∧SqT K H b ys∧xs≠[]∧xs.length+ys.length≤sizeLine∧
 (ys=[]→Q (.ref a) H)∧(ys≠[]→∀p,H p=none→Q (.ref p) (upd H p (.tup (xs++ys))))
theorem Vals.nil_iff {xs:List V}{us:List Value}(r:Vals xs us):us=[]↔xs=[]:=by
 cases r with
 |nil=>simp
 |cons _ _=>simp
theorem nv:OpR X (binaryOp .Add) (qi X.K):=by
 intro pins s σ H x y v u Q I rx ry h
 obtain⟨a,b,xs,ys,rfl,rfl,ha,hb,hx,hz,q1,q2⟩:=h
 cases rx
 cases ry
 obtain⟨its,r1,p1,_⟩:=I.tuple ha
 obtain⟨its2,r2,p2,_⟩:=I.tuple hb
 refine HT.cat_tup p1 p2 (fun z=>hx (r1.nil_iff.mp z)) (fun z=>⟨.ref a,H,I,rfl,q1 (r2.nil_iff.mp z)⟩) (fun z=>?_) (by rw[←r1.length,←r2.length];exact hz)
 refine⟨.ref s.heap.objs.size,_,I.laid (t':=s.toks) (o:= .tup (xs++ys)) (fun b ob q=>Heap.get?_push_of_some _ q) (Nat.le_refl _) ?_,rfl,q2 (fun w=>z (r2.nil_iff.mpr w)) _ (I.hok.fresh (Nat.le_refl _))⟩
 exact⟨by rw[List.length_append];exact hz,_,r1.append r2,IsTup.new _ _⟩
end
end L2
namespace L2
open PySem PySem.Spec PyProof.Rows
def ixN (n:Nat) (i:Int):Option Nat:=if 0≤i then(if i<n then some i.toNat else none) else if -(n:Int)≤i then some (i+n).toNat else none
def atI {α:Type}(xs:List α) (i:Int):Option α:=(ixN xs.length i).bind fun j=>xs[j]?
theorem ng {n:Nat}{i:Int}{j:Nat}(h:ixN n i=some j):seqIndex? i n=some j∧j<n∧ -(n:Int)≤i∧i<n:=by
 unfold ixN at h
 by_cases h0:0≤i
 ·rw[if_pos h0] at h
  by_cases h1:i<n
  ·rw[if_pos h1] at h
   have e:i.toNat=j:=Option.some.inj h
   exact⟨by rw[seqIndex_of h0 h1,e],by omega,by omega,h1⟩
  ·rw[if_neg h1] at h;cases h
 ·rw[if_neg h0] at h
  by_cases h1: -(n:Int)≤i
  ·rw[if_pos h1] at h
   have e:(i+n).toNat=j:=Option.some.inj h
   exact⟨by rw[seqIndex_neg (by omega) h1,e],by omega,h1,by omega⟩
  ·rw[if_neg h1] at h;cases h
theorem gJ {α:Type}{xs:List α}{i:Int}{v:α}(h:atI xs i=some v):∃j,seqIndex? i xs.length=some j∧xs[j]? =some v∧j<xs.length∧ -(xs.length:Int)≤i∧i<xs.length:=by
 unfold atI at h
 cases e:ixN xs.length i with
 |none=>rw[e] at h;cases h
 |some j=>
  rw[e] at h
  obtain⟨h1,h2,h3,h4⟩:=ng e
  exact⟨j,h1,h,h2,h3,h4⟩
def cU (b:Expr):Prop:=∀o i,subscripted b false o i=operate [o,i] (getItem o i)
def IxR (X:Cx) (r:R2):Prop:=
 ∀(value slice:Expr) (pins:List (Addr×Obj)) (s:Shared) (σ:St) (H:Hp) (x y:V) (v u:Value) (Q:VK),Inv X pins σ H s→RelV x v→RelV y u→r x y H Q→
  subscripted slice false v u=operate [v,u] (getItem v u)→wpAny (model X.prog X.w) X.A (subscriptTail value slice v u) (EP X pins σ Q) X.xe s
def MtR (X:Cx) (id:String) (r:V→List V→Hp→VK→Prop):Prop:=
 ∀(pins:List (Addr×Obj)) (s:Shared) (σ:St) (H:Hp) (x:V) (xs:List V) (v:Value) (us:List Value) (Q:VK),Inv X pins σ H s→RelV x v→Vals xs us→r x xs H Q→
  wpAny (model X.prog X.w) X.A (call (.builtin id) (v::us)) (EP X pins σ Q) X.xe s
section
variable {X : Cx} {a b : Expr} {ta tb : TE} {pos : Pos}
theorem qd {r:R2}(hr:IxR X r) (ha:PE X a ta) (hb:PE X b tb) (hs:cU b):PE X (.Subscript a b pos) (tOp r ta tb):=by
 intro pins s σ H Q I h
 exact Subscript_ (oP ha hb I h fun v u s2 x y H2 I2 rx ry q=>hr a b pins s2 σ H2 x y v u Q I2 rx ry q (hs _ _))
def pN (K:PySem.W.Frag):R2:=fun x y H Q=>∃p xs i v,x= .ref p∧y= .int i∧SqL K H p xs∧atI xs i=some v∧Q v H
def qo (K:PySem.W.Frag):R2:=fun x y H Q=>∃p xs i v,x= .ref p∧y= .int i∧SqT K H p xs∧atI xs i=some v∧Q v H
def qm:R2:=fun x y H Q=>∃z i c,x= .str z∧y= .int i∧z.length≤sizeLine∧atI z.cps.toList i=some c∧Q (.str ⟨#[c]⟩) H
theorem kc:IxR X (pN X.K):=by
 intro value slice pins s σ H x y v u Q I rx ry h hs
 obtain⟨p,xs,i,z,rfl,rfl,hq,he,q⟩:=h
 cases rx
 obtain⟨t,rfl⟩:=ry
 obtain⟨its,r,pl,hz⟩:=I.list hq
 obtain⟨j,h1,h2,h3,h4,h5⟩:=gJ he
 obtain⟨w,ew,rw'⟩:=r.get h2
 have hl:=r.length
 have hn:=d4
 have fin:EP X pins σ Q w s:=⟨z,H,I,rw',q⟩
 by_cases h0:0≤i
 ·have hj:i.toNat=j:=by
   rw[seqIndex_of h0 h5] at h1
   exact Option.some.inj h1
  exact item_listR pl.isList h0 (by omega) (by rw[hj];simpa using ew) fin hs
 ·have hj:(i+(its.toArray.size:Int)).toNat=j:=by
   rw[seqIndex_neg (by omega) h4] at h1
   rw[List.size_toArray,←hl]
   exact Option.some.inj h1
  exact subscriptTail_builtinR (x:=w) pl.isList.typeIs slot_list_getitem.lookup
   (wpAny_getItem_list_neg (Q:=fun r s'=>r=w∧EP X pins σ Q r s') pl.isList (by omega) (by rw[List.size_toArray]<;>omega) (by omega) (by rw[hj];simpa using ew) ⟨rfl,fin⟩) hs
theorem o3:IxR X (qo X.K):=by
 intro value slice pins s σ H x y v u Q I rx ry h hs
 obtain⟨p,xs,i,z,rfl,rfl,hq,he,q⟩:=h
 cases rx
 obtain⟨t,rfl⟩:=ry
 obtain⟨its,r,pl,hz⟩:=I.tuple hq
 obtain⟨j,h1,h2,h3,h4,h5⟩:=gJ he
 obtain⟨w,ew,rw'⟩:=r.get h2
 have hl:=r.length
 have hn:=d4
 have fin:EP X pins σ Q w s:=⟨z,H,I,rw',q⟩
 exact subscriptTail_builtinR (x:=w) pl.typeIs slot_tuple_getitem.lookup
  (getItem_tuple (j:=j) (Q:=fun r s'=>r=w∧EP X pins σ Q r s') pl (by omega) (by omega) (by rw[List.size_toArray,←hl];exact h1) (by simpa using ew) ⟨rfl,fin⟩) hs
theorem o2:IxR X qm:=by
 intro value slice pins s σ H x y v u Q I rx ry h hs
 obtain⟨z,i,c,rfl,rfl,hz,he,q⟩:=h
 obtain⟨t,rfl⟩:=rx
 obtain⟨t',rfl⟩:=ry
 obtain⟨j,h1,h2,h3,h4,h5⟩:=gJ he
 have hl:z.cps.toList.length=z.length:=by simp[Str.length]
 rw[hl] at h1 h4 h5
 have hn:=d4
 exact tail_any (typeIs_str s z t) slot_str_getitem.lookup (getItem_str (c:=c) (by
  have e1:decide (i< -(2 ^ 63:Int))=false:=decide_eq_false (by omega)
  have e2:decide (i≥2 ^ 63)=false:=decide_eq_false (by omega)
  rw[e1,e2,Bool.or_false]) (by rw[h1];simpa using h2) ⟨.str ⟨#[c]⟩,H,I.tok _,⟨_,rfl⟩,q⟩) hs
theorem ik (lo hi:Option Int) (n:Nat):(sliceBounds lo hi none n).1=((HT.sIx n 0 lo:Nat):Int)∧(sliceBounds lo hi none n).2.1=((HT.sIx n n hi:Nat):Int)∧(sliceBounds lo hi none n).2.2=1:=by
 refine⟨?_,?_,rfl⟩
 ·cases lo with
  |none=>simp[sliceBounds,HT.sIx]
  |some i=>
   simp only[sliceBounds,HT.sIx,Option.getD_none,show (1:Int)>0 by decide,if_true]
   by_cases h:i<0
   ·simp only[h,if_true]<;>omega
   ·simp only[h,if_false]<;>omega
 ·cases hi with
  |none=>simp[sliceBounds,HT.sIx]
  |some i=>
   simp only[sliceBounds,HT.sIx,Option.getD_none,show (1:Int)>0 by decide,if_true]
   by_cases h:i<0
   ·simp only[h,if_true]<;>omega
   ·simp only[h,if_false]<;>omega
theorem fZ (its:List Value) (lo hi:Option Int):slicePick its.toArray lo hi none=((its.drop (HT.sIx its.length 0 lo)).take (HT.sIx its.length its.length hi - HT.sIx its.length 0 lo)).toArray:=by
 obtain⟨h1,h2,h3⟩:=ik lo hi its.toArray.size
 unfold slicePick
 rw[h1,h2,h3]
 simp only[sliceRange_one,pick_run,List.size_toArray]<;>rfl
def qN (K:PySem.W.Frag):V→Option Int→Option Int→Hp→VK→Prop:=fun x lo hi H Q=>∃a xs,x= .ref a∧SqL K H a xs∧∀p,H p=none→Q (.ref p) (upd H p (.lst (iK xs lo hi)))
theorem oj:SlR X (qN X.K):=by
 intro pins s σ H x v vl vu lo hi sl Q I rx hs pl pu h
 obtain⟨a,xs,rfl,hx,q⟩:=h
 cases rx
 obtain⟨its,r,ht,hz⟩:=I.list hx
 have hlen:=r.length
 refine⟨"list",_,slot_list_getitem.lookup,ht.isList.typeIs,?_⟩
 refine wpAny_getItem_list_slice ht.isList hs pl pu .none (by simp) ?_ (by rw[List.size_toArray]<;>omega)
 rw[fZ,←hlen]
 refine⟨.ref s.heap.objs.size,_,I.laid (t':=s.toks) (o:= .lst (iK xs lo hi)) (fun b ob q=>Heap.get?_push_of_some _ q) (Nat.le_refl _) ?_,rfl,q _ (I.hok.fresh (Nat.le_refl _))⟩
 exact⟨Nat.le_trans (ei xs lo hi) hz,_,0,(r.drop (HT.sIx xs.length 0 lo)).take (HT.sIx xs.length xs.length hi - HT.sIx xs.length 0 lo),Heap.get?_push_size _ rfl⟩
theorem gK:CallR X (.builtin "len") (fun xs H Q=>∃p ys,xs=[.ref p]∧(SqL X.K H p ys∨SqT X.K H p ys)∧Q (.int ys.length) H):=by
 intro pins s σ H xs us Q I r h
 obtain⟨p,ys,rfl,hq,q⟩:=h
 obtain⟨u,rfl,rx⟩:=vals1 r
 cases rx
 have hn:=d4
 rcases hq with hq | hq
 ·obtain⟨its,r',pl,hz⟩:=I.list hq
  have hlen:=r'.length
  exact Calls.call_len_list pl.isList (by simp only[List.size_toArray]<;>omega) ⟨.int ys.length,H,I.tok _,⟨s.toks+1,by rw[List.size_toArray,hlen]⟩,q⟩
 ·obtain⟨its,r',pl,hz⟩:=I.tuple hq
  have hlen:=r'.length
  exact len_tuple pl (by simp only[List.size_toArray]<;>omega) ⟨.int ys.length,H,I.tok _,⟨s.toks+1,by rw[List.size_toArray,hlen]⟩,q⟩
theorem gL:CallR X (.builtin "len") (fun xs H Q=>∃z,xs=[.str z]∧z.length≤sizeLine∧Q (.int z.length) H):=by
 intro pins s σ H xs us Q I r h
 obtain⟨z,rfl,hz,q⟩:=h
 obtain⟨u,rfl,t,rfl⟩:=vals1 r
 have hn:=d4
 exact len_str (by omega) ⟨.int z.length,H,I.tok _,⟨_,rfl⟩,q⟩
theorem CallR.or {f:Value}{r r':List V→Hp→VK→Prop}(h:CallR X f r) (h':CallR X f r'):CallR X f (fun xs H Q=>r xs H Q∨r' xs H Q):=by
 intro pins s σ H xs us Q I rs q
 rcases q with q | q
 ·exact h pins s σ H xs us Q I rs q
 ·exact h' pins s σ H xs us Q I rs q
theorem fQ:CallR X (.type "tuple") (fun xs H Q=>∃p ys,xs=[.ref p]∧((SqL X.K H p ys∧∀l,H l=none→Q (.ref l) (upd H l (.tup ys)))∨(SqT X.K H p ys∧Q (.ref p) H))):=by
 intro pins s σ H xs us Q I r h
 obtain⟨p,ys,rfl,h⟩:=h
 obtain⟨u,rfl,rx⟩:=vals1 r
 cases rx
 rcases h with⟨hq,q⟩ | ⟨hq,q⟩
 ·obtain⟨its,r',pl,hz⟩:=I.list hq
  have hlen:=r'.length
  refine call_tuple_list pl.isList (fun h' kp=>?_) (by simp only[List.size_toArray]<;>omega)
  have I1:Inv X pins σ H {s with heap:=h'}:=I.kept (t':=s.toks) kp
  have I2:Inv X pins σ (upd H h'.objs.size (.tup ys)) {s with heap:=h'.push {cls:= .type "tuple",data:= .seq its.toArray} }:=
   I1.laid (t':=s.toks) (fun b o e=>Heap.get?_push_of_some _ e) (Nat.le_refl _) (show ObjOk X.prog X.w _ _ _ (.tup ys) from⟨hz,its,r',IsTup.new _ _⟩)
  exact⟨.ref h'.objs.size,_,I2,rfl,q _ (I1.hok.fresh (Nat.le_refl _))⟩
 ·obtain⟨its,r',pl,hz⟩:=I.tuple hq
  exact call_tuple_same pl ⟨.ref p,H,I,rfl,q⟩
def tyV (K:PySem.W.Frag) (T:String) (x:V) (H:Hp):Prop:=match x with
 | .str _=>T="str"
 | .int _=>T="int"
 | .ref p=>(T="list"∧∃xs,SqL K H p xs)∨(T="tuple"∧∃o,K.lookup p=some o∧o.cls= .type "tuple"∧o.dict=none)∨
    (T="dict"∧((∃kvs,H p=some (.dK kvs))∨∃kvs,H p=some (.dT kvs)))∨(T="set"∧∃S n,H p=some (.set S n))
 |_=>False
theorem pW {pins:List (Addr×Obj)}{σ:St}{H:Hp}{s:Shared}{T:String}{x:V}{v:Value}(I:Inv X pins σ H s) (r:RelV x v) (ty:tyV X.K T x H):
 s.TypeIs v T∧∀a,v= .ref a→∃ob,s.heap.get? a=some ob∧ob.dict=none:=by
 cases x with
 |str z=>
  obtain⟨t,rfl⟩:=r
  cases (show T="str" from ty)
  exact⟨typeIs_str s z t,fun _ e=>nomatch e⟩
 |int i=>
  obtain⟨t,rfl⟩:=r
  cases (show T="int" from ty)
  exact⟨typeIs_int s i t,fun _ e=>nomatch e⟩
 |ref p=>
  cases r
  rcases ty with⟨rfl,xs,hq⟩ | ⟨rfl,o,hk,hc,hd⟩ | ⟨rfl,hk⟩ | ⟨rfl,S,n,hk⟩
  ·obtain⟨its,_,pl,_⟩:=I.list hq
   refine⟨pl.isList.typeIs,fun a e=>?_⟩
   cases e
   obtain⟨o,n,e,c,hd,_⟩:=pl
   exact⟨o,e,hd⟩
  ·refine⟨⟨o,I.kIn p o hk,hc⟩,fun a e=>?_⟩
   cases e
   exact⟨o,I.kIn _ o hk,hd⟩
  ·have z:∃o,s.heap.get? p=some o∧o.ExactDict:=by
    rcases hk with⟨kvs,hk⟩ | ⟨kvs,hk⟩
    ·obtain⟨_,_,_,_,o,_,_,e,ex,_⟩:=I.hok p _ hk
     exact⟨o,e,ex⟩
    ·obtain⟨_,_,_,_,o,_,_,e,ex,_⟩:=I.hok p _ hk
     exact⟨o,e,ex⟩
   obtain⟨o,e,ex⟩:=z
   refine⟨⟨o,e,ex.1⟩,fun a e2=>?_⟩
   cases e2
   exact⟨o,e,ex.2.1⟩
  ·obtain⟨o,_,_,_,e,ex,_⟩:=I.hok p _ hk
   refine⟨⟨o,e,ex.1⟩,fun a e2=>?_⟩
   cases e2
   exact⟨o,e,ex.2.1⟩
 |_=>exact False.elim ty
def tBM (K:PySem.W.Frag) (T:String) (r:V→List V→Hp→VK→Prop) (to:TE) (t:TA):TE:=fun σ H Q=>to σ H fun x H1=>tyV K T x H1∧t σ H1 fun xs H2=>r x xs H2 Q
variable {o e : Expr} {es : List Expr} {to : TE} {t : TA} {name : Str} {apos cpos : Pos} {T id : String} {r : V → List V → Hp → VK → Prop}
theorem oF (pa:PlainAttrs T) (slot:Slot T name id) (hty:typeOf (.builtin id)=pure (.type "method_descriptor")) (hm:MtR X id r) (ho:PE X o to) (ha:PA X (e::es) t)
 (hbase:attributeBase o name X.env (eval o X.env)=eval o X.env:=by rfl)
 (hfew:((backTo cpos (starEach (e::es) X.env)).all (fun x=>!x.1)&&(backToKw cpos (keywordEach [] X.env)).all (fun x=>x.1.isSome)
  &&decide ((e::es).length+([]:List Keyword).length+(if ([]:List Keyword).isEmpty then 0 else 1)<30))=true:=by rfl)
 (hline:(apos.endLine==cpos.line)=true:=by rfl) (hs:starEach (e::es) X.env=(false,eval e X.env)::starEach es X.env:=by rfl) (hplain:(backTo cpos (starEach es X.env)).any (·.1)=false:=by rfl):
 PE X (.Call (.Attribute o name apos) (e::es) [] cpos) (tBM X.K T r to t):=by
 intro pins s σ H Q I h
 refine wpAny_Call_method_late hbase hfew hline rfl (thn (ho pins s σ H _ I h) fun v s1 ⟨x,H1,I1,r1,ty,q1⟩=>?_)
 obtain⟨h1,h2⟩:=pW I1 r1 ty
 refine⟨T,id,pa,slot,hty,h1,h2,?_⟩
 have hA:=ha cpos pins s1 σ H1 _ I1 q1
 rw[hs] at hA⊢
 refine Calls.callWith_builtin (by show (false||(backTo cpos (starEach es X.env)).any (·.1))=false;rw[hplain]<;>rfl) (Calls.evalArgs_plain ?_)
 exact thn hA fun us s2 ⟨vs,H2,I2,r2,q2⟩=>hm pins s2 σ H2 x vs v us Q I2 r1 r2 q2
end
end L2
namespace L2
open PySem PySem.Spec PyProof.Rows
def MtM (X:Cx) (id:String) (r:V→List V→Hp→VK→Prop):Prop:=
 ∀(pins:List (Addr×Obj)) (s:Shared) (σ:St) (H:Hp) (x:V) (xs:List V) (v:Value) (us:List Value) (Q:VK),Inv X pins σ H s→RelV x v→Vals xs us→r x xs H Q→
  wpAny (model X.prog X.w) X.A (call (.builtin id) (v::us)) (EP X pins σ Q) X.xe s
theorem Vals.one:∀{x:V}{us:List Value},Vals [x] us→∃u,us=[u]∧RelV x u
 |_,_, .cons r .nil=>⟨_,rfl,r⟩
theorem Vals.reverse {xs:List V}{us:List Value}(h:Vals xs us):Vals xs.reverse us.reverse:=by
 induction h with
 |nil=>exact .nil
 |cons r t ih=>rw[List.reverse_cons,List.reverse_cons];exact Vals.append ih (.cons r .nil)
section
variable {X : Cx} {pins : List (Addr × Obj)} {σ : St} {H : Hp} {s : Shared} {l b : Addr} {xs ys zs : List V}
theorem Inv.lset {its its':List Value}{n:Nat}{f:Array Value→Array Value}{t':Nat}(I:Inv X pins σ H s) (hH:H l=some (.lst xs))
 (e:s.heap.get? l=some {cls:= .type "list",data:= .seq its.toArray n}) (hf:f its.toArray=its'.toArray) (hv:Vals ys its') (hz:ys.length≤sizeLine):
 Inv X pins σ (upd H l (.lst ys)) {s with heap:=s.heap.update l (Obj.mapSeq f),toks:=t'}:=by
 have q:=PySem.IsL.update e f
 rw[hf] at q
 refine I.write (x:=l) (e:=l) (by rw[hH];exact trivial) (.inl rfl) (fun b' u hb hu=>(Heap.get?_update_other s.heap (Obj.mapSeq f) (Ne.symm hb)).trans hu) ⟨_,q⟩ ?_
 exact⟨hz,its',_,hv,q⟩
theorem Inv.lnew {its:List Value}{t':Nat}(I:Inv X pins σ H s) (hv:Vals ys its) (hz:ys.length≤sizeLine):
 Inv X pins σ (upd H s.heap.objs.size (.lst ys)) {s with heap:=s.heap.push {cls:= .type "list",data:= .seq its.toArray},toks:=t'}:=
 I.laid (fun _ _ q=>Heap.get?_push_of_some _ q) (Nat.le_refl _) ⟨hz,its,0,hv,Heap.get?_push_size _ rfl⟩
theorem Inv.fresh (I:Inv X pins σ H s):H s.heap.objs.size=none:=I.hok.fresh (Nat.le_refl _)
theorem Inv.lstM (I:Inv X pins σ H s) (hH:H l=some (.lst xs)):xs.length≤sizeLine∧∃(its:List Value) (n:Nat),Vals xs its∧xs.length=its.length∧s.heap.get? l=some {cls:= .type "list",data:= .seq its.toArray n}:=by
 obtain⟨z,its,n,r,e⟩:=I.hok l _ hH
 exact⟨z,its,n,r,r.length,e⟩
theorem lY {n:Nat}(h:n≤sizeLine):Builtin.List.listTooLong n=false:=by
 unfold Builtin.List.listTooLong
 exact decide_eq_false (by omega)
end
section
variable {X : Cx}
def ky:V→List V→Hp→VK→Prop:=fun x vs H Q=>∃l xs y,x= .ref l∧vs=[y]∧H l=some (.lst xs)∧xs.length<sizeLine∧Q .non (upd H l (.lst (xs++[y])))
theorem gy:MtM X "list.append" ky:=by
 intro pins s σ H x vs v us Q I rx rv h
 obtain⟨l,xs,y,rfl,rfl,hH,hz,q⟩:=h
 cases rx
 obtain⟨u,rfl,ru⟩:=rv.one
 obtain⟨z,its,n,r,hl,e⟩:=I.lstM hH
 refine call_meets F.slot_list_append ⟨_,e,rfl⟩ F.entry_list_append (F.args_list_append_2 _ _) (PySem.list_append l its.toArray n u (by rw[List.size_toArray];omega)) ⟨e,?_⟩
 refine⟨.non,_,I.lset (its':=its++[u]) hH e (by simp) (r.append (.cons ru .nil)) ?_,rfl,q⟩
 rw[List.length_append,List.length_singleton]
 omega
def n8:V→List V→Hp→VK→Prop:=fun x vs H Q=>∃l b xs zs,x= .ref l∧vs=[.ref b]∧H l=some (.lst xs)∧H b=some (.lst zs)∧xs.length+zs.length≤sizeLine∧Q .non (upd H l (.lst (xs++zs)))
theorem pY:MtM X "list.extend" n8:=by
 intro pins s σ H x vs v us Q I rx rv h
 obtain⟨l,b,xs,zs,rfl,rfl,hH,hB,hz,q⟩:=h
 cases rx
 obtain⟨u,rfl,ru⟩:=rv.one
 cases ru
 obtain⟨z,its,n,r,hl,e⟩:=I.lstM hH
 obtain⟨z2,its2,n2,r2,hl2,e2⟩:=I.lstM hB
 have hsz:its.toArray.size+its2.toArray.size≤sizeLine:=by rw[List.size_toArray,List.size_toArray];omega
 have hlong:¬(!its.toArray.isEmpty&&Builtin.List.listTooLong (its.toArray.size+its2.toArray.size))=true:=by
  rw[lY hsz,Bool.and_false]
  exact Bool.false_ne_true
 refine call_meets F.slot_list_extend ⟨_,e,rfl⟩ F.entry_list_extend (F.args_list_extend_2 _ _)
  (AutoSeq1.list_extend_list_list_0 l its.toArray n b its2.toArray n2 hlong (by rw[List.size_toArray];omega) (by omega)) ⟨e,e2,?_⟩
 refine⟨.non,_,I.lset (its':=its++its2) hH e (by simp) (r.append r2) ?_,rfl,q⟩
 rw[List.length_append]
 omega
def qL:R2:=fun x y H Q=>∃l b xs zs,x= .ref l∧y= .ref b∧H l=some (.lst xs)∧H b=some (.lst zs)∧xs.length+zs.length≤sizeLine∧∀p,H p=none→Q (.ref p) (upd H p (.lst (xs++zs)))
theorem l0:OpR X (binaryOp .Add) qL:=by
 intro pins s σ H x y v u Q I rx ry h
 obtain⟨l,b,xs,zs,rfl,rfl,hH,hB,hz,q⟩:=h
 cases rx
 cases ry
 obtain⟨z,its,n,r,hl,e⟩:=I.lstM hH
 obtain⟨z2,its2,n2,r2,hl2,e2⟩:=I.lstM hB
 refine PySem.P.add_list e e2 ?_ (by rw[List.size_toArray,List.size_toArray];omega)
 have ea:its.toArray++its2.toArray=(its++its2).toArray:=by simp
 rw[ea]
 exact⟨.ref _,_,I.lnew (t':=s.toks) (r.append r2) (by rw[List.length_append];omega),rfl,q _ I.fresh⟩
end
section
variable {prog : Program} {w : World} {A : Around} {E : Value → Shared → Prop} {s : Shared}
end
section
variable {X : Cx}
end
end L2
namespace Att
open PySem PySem.W PySem.Calls PyProof.Rows
theorem ints_of_wellAll {P:Params}{h:Heap}:∀(ns:List Int) (vs:List Value),WellAll P h vs (ns.map WData.int)→IntsAre vs ns:=by
 intro ns
 induction ns with
 |nil=>
  intro vs w
  rw[List.map_nil] at w
  cases w
  exact .nil
 |cons n ns ih=>
  intro vs w
  rw[List.map_cons] at w
  cases w with
  |cons a b=>
   cases a
   exact .cons _ _ (ih _ b)
theorem script_of {l:OpenLaw}{n:Nat}(hn:l.most=some n) {P:Params}{h:Heap}{args:List WData}{vals:List Value}
 (hpre:l.row.toRowW.claim.pre args=true) (hwl:WellAll P h vals args):
 ∃a vs ns,vals=[Value.ref a]∧args=[WData.list (ns.map WData.int)]∧h.get? a=some {cls:= .type "list",data:= .seq vs.toArray}∧IntsAre vs ns∧ns.length≤n:=by
 have hsh:WShape.hasAll [] args [.list .int]=true:=(pre_splitW hpre).1
 have hc:l.pre.holds [] {args:=args}=true:=(pre_splitW hpre).2
 obtain⟨d,r,rfl,h1,h2⟩:=hasAllW_cons hsh
 obtain rfl:=hasAllW_nil h2
 obtain⟨xs,rfl,h3⟩:=hasW_list h1
 obtain⟨ns,rfl⟩:=items_int h3
 have hlen:ns.length≤n:=by
  unfold OpenLaw.pre at hc
  have h4:(WTm.not (.lt (.lit (.int (n:Int))) (.len (.arg 0)))).holds [] {args:=[.list (ns.map .int)]}=true:=by
   have h4:=(holds_andW hc).1
   rw[hn] at h4
   exact h4
  have h5:=condW_of h4 (w_not (w_lt w_lit (w_len_list (w_arg rfl))))
  rw[List.length_map] at h5
  refine Nat.le_of_not_lt fun q=>?_
  have q':(n:Int)<((ns.length:Nat):Int):=by omega
  first
   |(rw [decide_eq_true q'] at h5;exact absurd h5 (by decide))
   |(simp at h5;omega)
 cases hwl with
 |cons w1 w2=>
  cases w2
  cases w1 with
  |list ho hall=>exact⟨_,_,ns,rfl,rfl,ho,ints_of_wellAll ns _ hall,hlen⟩
theorem post_true (l:OpenLaw) (args:List WData):l.row.toRowW.claim.post args (.bool true) args=true:=
 postW_of (r:=l.row.toRowW) (X:=(true==true))
  (show WShape.has [] (.bool true) .bool=true by first | rfl | decide | simp[WShape.has,WShape.arms,WShape.armsAll])
  (show (WTm.eq .res (.lit (.bool true))).value [] {args:=args,res:=some (.bool true),after:=args}=some (.bool (true==true)) from w_eq_bool (w_res rfl) w_lit) rfl
theorem attach_call {l:OpenLaw}{n:Nat}{q:Program}{loose:List Str}{XP:(Str→Option Value)→Heap→Prop}{YP:World→Heap→Prop}{d:DefRec}
 (hn:l.most=some n) (hdf:d.params.defaults=[])
 (call:∀(w:World) (s₀ s₁:Shared) (mg mb:Str→Option Value) (fa:Addr) (o:Obj) (pm cd doc:Value) (a:Addr) (vs:List Value) (ns:List Int),
  Ground q loose [] XP w s₀ mg mb s₁.heap→YP w s₁.heap→
  s₁.heap.get? fa=some o→o.data= .func (docDef d.name d.params d.body d.scope pm cd doc)→s₁.heap.CodeRec cd d.name→mg d.name=some (.ref fa)→
  s₁.heap.get? a=some {cls:= .type "list",data:= .seq vs.toArray}→IntsAre vs ns→ns.length≤n→s₁.gens= #[]→
  codeAny (model l.prog w) callerA (.call (.ref fa) ⟨[.ref a],[]⟩) (fun r s'=>r= .ok (.ret (.bool true))∧OldK s₁.heap s'.heap∧s'.os=s₁.os∧AllBare s'.gens) s₁):
 WalkO q loose XP YP l.row.toRowW d [] (fun f vs=>PySem.call f vs):=by
 intro w s₀ s₁ mg mb G Y fa o pm cd doc dV kV ho hd hcd hD hmg hg args vals as hpre hlay hrd hwl hlo
 obtain rfl:dV= .none:=Dflts.none hD hdf
 obtain rfl:kV= .none:=Dflts.noKw hD
 obtain⟨a,vs,ns,rfl,rfl,hobj,hints,hlen⟩:=script_of hn hpre hwl
 refine enter_call (codeAny_mono (call w s₀ s₁ mg mb fa o pm cd doc a vs ns G Y ho (fd_plain hd) hcd hmg hobj hints hlen hg) fun r s' hq=>?_)
 obtain⟨rfl,h2,h3,h4⟩:=hq
 exact⟨.inl ⟨.bool true, .bool true,[],rfl,fun _=>rfl, .bool true,post_true l _,fun _=>⟨List.Pairwise.nil,fun _ hm=>(nomatch hm)⟩⟩,h2,h3,h4⟩
section
variable {prog : Program} {w : World} {A : Around} {E : Value → Shared → Prop} {s : Shared} {K : Frag}
def ledger (h:Heap) (L d:Addr):List (Addr×Obj):=(List.range h.objs.size).filterMap fun a=>if a=L∨a=d then none else(h.get? a).map fun o=>(a,o)
end
end Att
namespace L2
open PySem PySem.Spec PyProof.Rows
theorem gH:∀{vs:List Value}{ns:List Int},IntsAre vs ns→Vals (ns.map V.int) vs
 |_,_, .nil=> .nil
 |_,_, .cons n t h=> .cons ⟨t,rfl⟩ (gH h)
def oM (H:Hp):Prop:=∀b,H b=none∨∃o xs,H b=some (.frz o (.lst xs))
theorem i1 {P:Program}{w:World}{K:PySem.W.Frag}{mg mb:Str→Option Value}{CX:CXT}{k:Nat}{fa a:Addr}{fd:FuncData}{x:Str}{sp:Sp}{s₁:Shared}{vs:List Value}{ns:List Int}
 (KX:K.In s₁.heap) (hns:s₁.heap.Ns mainGlobals mg) (hb:s₁.heap.Ns builtinsNs mb) (hbb:∀x:Str,x≠"__name__"→mb x=bootBuiltins x) (hlim:s₁.heap.NoLimit) (hg:s₁.gens= #[])
 (ha:s₁.heap.get? a=some {cls:= .type "list",data:= .seq vs.toArray}) (hi:IntsAre vs ns) (hl:ns.length≤sizeLine) (hr:Room k callerA)
 (F:∀base:Heap,K.In base→base.Ns mainGlobals mg→FnOk P w K mg base CX k fa fd [x] sp) (hbind:∀(s:Shared) (u:Value),BindsTo s fd ⟨[u],[]⟩ [(x,u)])
 (hsp:∀H:Hp,oM H→SqL K H a (ns.map V.int)→sp [.ref a] H (fun v _=>v= .bl true) fun _ _ _=>False)
 (hCX:∀H e s',CX [] H s₁ (fun _ _ _=>False) e s'→False):
 codeAny (model P w) callerA (.call (.ref fa) ⟨[.ref a],[]⟩) (fun r s'=>r= .ok (.ret (.bool true))∧OldK s₁.heap s'.heap∧s'.os=s₁.os∧AllBare s'.gens) s₁:=by
 have rv:=gH hi
 have lenV:=hi.length
 have core:∀H:Hp,oM H→SqL K H a (ns.map V.int)→HOk P w H s₁.heap→(∀b,H b≠none→b=a)→(H a≠none→K.lookup a=none)→
  codeAny (model P w) callerA (.call (.ref fa) ⟨[.ref a],[]⟩) (fun r s'=>r= .ok (.ret (.bool true))∧OldK s₁.heap s'.heap∧s'.os=s₁.os∧AllBare s'.gens) s₁:=by
  intro H hO hS hok hA hK
  have base_of:∀{b:Addr}{o:Obj},s₁.heap.get? b=some o→H b=none→(gU s₁.heap H).get? b=some o:=fun e n=>lO e n
  have noA:∀{b:Addr}{o:Obj}{es:Array DictEntry}{ep:Nat},s₁.heap.get? b=some o→o.data= .dict es ep→H b=none:=fun {b o es ep} e d=>by
   cases q:H b with
   |none=>rfl
   |some u=>
    have e':b=a:=hA b (by rw[q];simp)
    subst e'
    rw[ha] at e;cases e
    have d':Data.seq vs.toArray _=Data.dict es ep:=d
    cases d'
  have nsK:∀{b:Addr}{m:Str→Option Value},s₁.heap.Ns b m→(gU s₁.heap H).Ns b m:=fun {b m} ⟨o,es,ep,e,d,r⟩=>⟨o,es,ep,base_of e (noA e d),d,r⟩
  have hKb:K.In (gU s₁.heap H):=fun b o e=>base_of (KX b o e) (by
   cases q:H b with
   |none=>rfl
   |some u=>
    have e':b=a:=hA b (by rw[q];simp)
    subst e'
    rw[hK (by rw[q];simp)] at e;cases e)
  have hM:Mod K mg (gU s₁.heap H):=⟨hKb,nsK hns,⟨mb,nsK hb,hbb⟩,let ⟨mc,h1,h2⟩:=hlim;⟨mc,nsK h1,h2⟩⟩
  have e0:Env0 P w K mg (gU s₁.heap H) callerA [] s₁ H:=⟨rfl,hM,fun b o e=>nu e,Nat.le_of_eq (kQ _ _),trivial,fun b hb=>absurd (show b∈([]:List Addr) from hb) (by simp),hok, .of_eq hg⟩
  refine codeAny_mono ((F _ hKb (nsK hns)).run callerA [] s₁ H ⟨[.ref a],[]⟩ [.ref a] [.ref a] _ _ hr e0 (hbind s₁ (.ref a)) (.cons rfl .nil) (hsp H hO hS)) fun r s' h=>?_
  cases r with
  |error e=>exact(hCX H e s' h).elim
  |ok fl=>
   cases fl with
   |next=>exact False.elim h
   |brk=>exact False.elim h
   |cont=>exact False.elim h
   |ret u=>
    obtain⟨v,H',os,bare,un,hok',r',q⟩:=h
    have q':v= .bl true:=q
    subst q'
    obtain rfl:u=Value.bool true:=r'
    refine⟨rfl,OldK.of_keep fun b o e=>?_,os,bare⟩
    cases q:H b with
    |none=>exact un.keep b o e q (by intro z;exact absurd (show b∈([]:List Addr) from z) (by simp)) (by simp)
    |some u=>
     rcases hO b with z | ⟨ob,xs,z⟩
     ·rw[q] at z;cases z
     ·have z2:=un.frzs b ob _ z
      obtain⟨e1,_⟩:=hok b _ z
      obtain⟨e2,_⟩:=hok' b _ z2
      rw[e] at e1;cases e1
      exact e2
 cases hk:K.lookup a with
 |some o=>
  have e:=KX a o hk
  rw[ha] at e
  cases e
  refine core (fun _=>none) (fun _=> .inl rfl) (.inr ⟨_,vs.toArray,_,hk,rfl,rfl,rfl,by rw[List.size_toArray,lenV];exact hl,by simpa using rv⟩) (fun b u z=>by have z':(none:Option HO)=some u:=z;cases z') (fun b z=>absurd rfl z) fun z=>absurd rfl z
 |none=>
  refine core (fun b=>if b=a then some (.frz {cls:= .type "list",data:= .seq vs.toArray} (.lst (ns.map V.int))) else none) (fun b=>?_) (.inl (.inr ⟨{cls:= .type "list",data:= .seq vs.toArray},if_pos rfl⟩)) (fun b u z=>?_) (fun b z=>?_) fun _=>hk
  ·by_cases hb:b=a
   ·exact .inr ⟨_,_,if_pos hb⟩
   ·exact .inl (if_neg hb)
  ·by_cases hb:b=a
   ·have z':=(if_pos hb).symm.trans z
    cases z'
    subst hb
    exact⟨ha,by rw[List.length_map];exact hl,vs,_,rv,ha⟩
   ·have z':=(if_neg hb).symm.trans z
    cases z'
  ·by_cases hb:b=a
   ·exact hb
   ·exact absurd (if_neg hb) z
end L2
namespace L2
open PySem PySem.Spec PyProof.Rows
abbrev KOf {K:PySem.W.Frag}{h:Heap}(_:K.In h):PySem.W.Frag:=K
theorem qB {l:PySem.W.OpenLaw}{n k:Nat}{q:Program}{loose:List Str}{XP:(Str→Option Value)→Heap→Prop}{YP:World→Heap→Prop}{d:DefRec}{K:Params→PySem.W.Frag}{CX:World→CXT}{sp:World→Sp}{x:Str}
 (hn:l.most=some n) (hn2:n≤sizeLine) (hdf:d.params.defaults=[]) (hr:Room k callerA)
 (hY:∀(w:World) (h:Heap),YP w h→(K w.params).In h)
 (F:∀(w:World) (mg:Str→Option Value) (fa:Addr) (h:Heap),(K w.params).In h→h.Ns mainGlobals mg→mg d.name=some (.ref fa)→
  ∃fd:FuncData,(∀(s:Shared) (u:Value),BindsTo s fd ⟨[u],[]⟩ [(x,u)])∧
   ∀base:Heap,(K w.params).In base→base.Ns mainGlobals mg→FnOk l.prog w (K w.params) mg base (CX w) k fa fd [x] (sp w))
 (hsp:∀(w:World) (H:Hp) (a:Addr) (ns:List Int),ns.length≤n→oM H→SqL (K w.params) H a (ns.map V.int)→sp w [.ref a] H (fun v _=>v= .bl true) fun _ _ _=>False)
 (hCX:∀(w:World) (H:Hp) (s:Shared) (e:Value) (s':Shared),CX w [] H s (fun _ _ _=>False) e s'→False):
 PySem.W.WalkO q loose XP YP l.row.toRowW d [] (fun f vs=>PySem.call f vs):=by
 refine Att.attach_call hn hdf fun w s₀ s₁ mg mb fa o pm cd doc a vs ns G Y ho hd hcd hmg hobj hints hlen hg=>?_
 have KX:=hY w _ Y
 obtain⟨fd,hb,hF⟩:=F w mg fa _ KX G.T.g hmg
 exact i1 KX G.T.g G.T.b G.T.builtins G.T.nolimit hg hobj hints (Nat.le_trans hlen hn2) hr hF hb (fun H hO hS=>hsp w H a ns hlen hO hS) fun H e s'=>hCX w H s₁ e s'
end L2
namespace L2
open PySem PySem.Spec PyProof.Rows
def aI (s:Stmt):Arguments:=match s with
 | .FunctionDef _ a _ _ _ _ _ _ _ _=>a
 |_=>{posonlyargs:=[],args:=[],vararg:=none,kwonlyargs:=[],kw_defaults:=[],kwarg:=none,defaults:=[]}
def aq (s:Stmt):List Stmt:=match s with
 | .FunctionDef _ _ b _ _ _ _ _ _ _=>b
 |_=>[]
def af (s:Stmt):Scope:=match s with
 | .FunctionDef _ _ _ _ _ _ sc _ _ _=>sc
 |_=>{kind:= .function,names:=[],isGenerator:=false,isCoroutine:=false}
abbrev CX0:CXT:=fun _ _ _ _ _ _=>False
structure Fun (K:PySem.W.Frag) (x qual:Str) (st:Stmt) (f:Addr) (fd:FuncData):Prop where
 ex:∃(oc:Value) (od:Option Addr) (kV doc pm:Value) (an:Option Addr) (cdv ct:Value) (osl:Array (Option Value)),
  fd=PySem.W.fnOf x qual (aI st) (aq st) (af st) .none kV doc pm an cdv ct∧K.lookup f=some ⟨oc,od, .func fd,osl⟩∧PySem.W.codeIn K cdv qual=true
 kp:PySem.W.keepIn K (.ref f)=true
section
variable {P : Program} {w : World} {K : PySem.W.Frag} {mg : Str → Option Value} {base : Heap}
theorem Fun.binds {x qual:Str}{st:Stmt}{f:Addr}{fd:FuncData}{ps:List Str}(F:Fun K x qual st f fd)
 (h:∀(kV doc pm:Value) (an:Option Addr) (cdv ct:Value) (us:List Value),us.length=ps.length→bindArgs (PySem.W.fnOf x qual (aI st) (aq st) (af st) .none kV doc pm an cdv ct) ⟨us,[]⟩=pure (ps.zip us)):Binds K fd ps []:=by
 obtain⟨oc,od,kV,doc,pm,an,cdv,ct,osl,rfl,lk,hcd⟩:=F.ex
 exact .all (h kV doc pm an cdv ct)
theorem bC {x qual:Str}{st:Stmt}{f:Addr}{oc:Value}{od an:Option Addr}{osl:Array (Option Value)}{kV doc pm cdv ct:Value}(l:K.lookup f=some ⟨oc,od, .func (PySem.W.fnOf x qual (aI st) (aq st) (af st) .none kV doc pm an cdv ct),osl⟩)
 (c:PySem.W.codeIn K cdv qual=true) (k:PySem.W.keepIn K (.ref f)=true):Fun K x qual st f (PySem.W.fnOf x qual (aI st) (aq st) (af st) .none kV doc pm an cdv ct):=⟨⟨oc,od,kV,doc,pm,an,cdv,ct,osl,rfl,l,c⟩,k⟩
end
section
variable {X : Cx}
theorem pv (i:Nat) {x:Str}{pos:Pos}(hN:X.N[i]? =some x:=by rfl) (hv:Vis X.env.scope x:=by first | exact Or.inl rfl | exact Or.inr (Or.inl rfl) | exact Or.inr (Or.inr rfl)) (hd:(x==("__debug__":Str))=false:=by decide)
 (hcd:(x==("__classdict__":Str))=false:=by decide):PE X (.Name x pos) (mQ i):=pF hN hv hd hcd
end
def Same (H H':Hp):Prop:=∀b o,H b=some o→H' b=some o
theorem Same.refl (H:Hp):Same H H:=fun _ _ h=>h
theorem Same.trans {H H1 H2:Hp}(a:Same H H1) (b:Same H1 H2):Same H H2:=fun c o h=>b c o (a c o h)
theorem Same.free {H H':Hp}(e:Same H H') {l:Addr}(h:H' l=Option.none):H l=Option.none:=by
 cases q:H l with
 |none=>rfl
 |some o=>
  rw[e l o q] at h
  cases h
theorem Same.seq {K:PySem.W.Frag}{H H':Hp}{a:Addr}{xs:List V}(e:Same H H') (h:SqL K H a xs):SqL K H' a xs:=by
 rcases h with(h | ⟨o,h⟩) | h
 ·exact .inl (.inl (e _ _ h))
 ·exact .inl (.inr ⟨o,e _ _ h⟩)
 ·exact .inr h
end L2
namespace L2
open PySem PySem.Spec PyProof.Rows
section
variable {κ : Type} [DecidableEq κ]
theorem RelO.getD {o:Option V}{u:Option Value}{d:V}{d':Value}(r:RelO o u) (rd:RelV d d'):RelV (o.getD d) (u.getD d'):=by
 cases o with
 |none=>cases u with
  |none=>exact rd
  |some _=>exact(show False from r).elim
 |some _=>cases u with
  |none=>exact(show False from r).elim
  |some _=>exact r
theorem KV.length {kvs:List (κ×V)}{vs:List (κ×Value)}(r:KV kvs vs):kvs.length=vs.length:=Paired.length r
end
abbrev KT (H:Hp):List (List Key×V)→List (List Key×Addr×Value)→Prop:=Paired fun p q=>p.1=q.1∧H q.2.1=some (.tup (p.1.map kV))∧RelV p.2 q.2.2
theorem KT.keeps {H H':Hp}{kvs:List (List Key×V)}{xs:List (List Key×Addr×Value)}(r:KT H kvs xs) (ht:∀b ys,H b=some (.tup ys)→H' b=some (.tup ys)):KT H' kvs xs:=
 Paired.mapP r fun _ _ z=>⟨z.1,ht _ _ z.2.1,z.2.2⟩
section
variable {P : Program} {w : World} {H : Hp} {h : Heap} {a : Addr}
end
section
variable {X : Cx} {pins : List (Addr × Obj)} {σ : St} {H : Hp} {s : Shared} {a : Addr} {y v : V} {u r : Value} {o : Option V} {A : Around} {E : Value → Shared → Prop}
end
section
variable {X : Cx} {pins : List (Addr × Obj)} {σ : St} {H : Hp} {s : Shared} {a : Addr} {kvs : List (Key × V)} {k : Key} {u : Value} {A : Around} {E : Value → Shared → Prop}
end
section
variable {X : Cx} {o i e value : Expr} {pos pos' tpos : Pos} {td ty tv : TE}
end
section
variable {X : Cx} {pos : Pos}
end
structure M1 (X:Cx) (o:Expr) (m:Str) (apos:Pos) (e:Expr) (cpos:Pos):Prop where
 base:attributeBase o m X.env (eval o X.env)=eval o X.env
 few:((backTo cpos (starEach [e] X.env)).all (fun x=>!x.1)&&(backToKw cpos (keywordEach [] X.env)).all (fun x=>x.1.isSome)
  &&decide (([e]:List Expr).length+([]:List Keyword).length+(if ([]:List Keyword).isEmpty then 0 else 1)<30))=true
 line:(apos.endLine==cpos.line)=true
 trees:backTo cpos (starEach [e] X.env)=[(false,eval e X.env)]
structure M2 (X:Cx) (o:Expr) (m:Str) (apos:Pos) (e f:Expr) (cpos:Pos):Prop where
 base:attributeBase o m X.env (eval o X.env)=eval o X.env
 few:((backTo cpos (starEach [e,f] X.env)).all (fun x=>!x.1)&&(backToKw cpos (keywordEach [] X.env)).all (fun x=>x.1.isSome)
  &&decide (([e,f]:List Expr).length+([]:List Keyword).length+(if ([]:List Keyword).isEmpty then 0 else 1)<30))=true
 line:(apos.endLine==cpos.line)=true
 trees:backTo cpos (starEach [e,f] X.env)=[(false,eval e X.env),(false,eval f X.env)]
section
variable {X : Cx} {pins : List (Addr × Obj)} {σ : St} {H : Hp} {s : Shared} {a : Addr} {y d : V} {u r : Value} {o : Option V} {A : Around} {E : Value → Shared → Prop}
end
section
variable {X : Cx} {o e f : Expr} {apos cpos : Pos} {td ty tx : TE}
end
section
variable {X : Cx} {pins : List (Addr × Obj)} {σ : St} {H : Hp} {s : Shared} {a : Addr} {kvs : List (Key × V)} {A : Around} {E : Value → Shared → Prop}
end
section
variable {X : Cx} {pins : List (Addr × Obj)} {σ : St} {H : Hp} {s : Shared} {a : Addr} {y : V} {u : Value} {A : Around} {E : Value → Shared → Prop}
end
end L2
namespace L3
open PySem PySem.Spec L2
open PyProof.Rows hiding St
inductive Rs (α:Type) where
 |ok (a:α) | ex (n:Nat)
def M (α:Type):=Option (Rs α)
def M.ret {α:Type}(a:α):M α:=some (.ok a)
def M.bind {α β:Type}(m:M α) (k:α→M β):M β:=match m with
 |none=>none
 |some (.ex n)=>some (.ex n)
 |some (.ok a)=>k a
def M.stuck {α:Type}:M α:=none
def M.raise {α:Type}(n:Nat):M α:=some (.ex n)
instance:Monad M where
 pure:=M.ret
 bind:=M.bind
@[simp] theorem ai {α β:Type}(a:α) (k:α→M β):(M.ret a>>=k)=k a:=rfl
@[simp] theorem oQ {α β:Type}(a:α) (k:α→M β):((pure a:M α)>>=k)=k a:=rfl
@[simp] theorem oR {α β:Type}(n:Nat) (k:α→M β):(M.raise n>>=k)=M.raise n:=rfl
@[simp] theorem oT {α β:Type}(k:α→M β):((M.stuck:M α)>>=k)=M.stuck:=rfl
theorem M.cs {α:Type}(m:M α):m=M.stuck∨(∃n,m=M.raise n)∨∃a,m=M.ret a:=by
 match m with
 |none=>exact .inl rfl
 |some (.ex n)=>exact .inr (.inl ⟨n,rfl⟩)
 |some (.ok a)=>exact .inr (.inr ⟨a,rfl⟩)
theorem cZ {α:Type}{a b:α}(h:M.ret a=M.ret b):a=b:=by
 have h:some (Rs.ok a)=some (Rs.ok b):=h
 cases h
 rfl
theorem mM {α:Type}{a:α}(h:M.stuck=M.ret a):False:=by
 have h:none=some (Rs.ok a):=h
 cases h
theorem mz {α:Type}{n:Nat}{a:α}(h:M.raise n=M.ret a):False:=by
 have h:some (Rs.ex n)=some (Rs.ok a):=h
 cases h
theorem cy {α β:Type}{m:M α}{k:α→M β}{r:β}(h:(m>>=k)=M.ret r):∃a,m=M.ret a∧k a=M.ret r:=by
 rcases m.cs with e | ⟨n,e⟩ | ⟨a,e⟩
 ·subst e;exact(mM h).elim
 ·subst e;exact(mz h).elim
 ·subst e;exact⟨a,rfl,h⟩
def j3 (h:Heap) (ea D:Addr):Prop:=∃ox,h.get? ea=some ox∧ox.cls= .ref D
def ExO (ea D:Addr):HO:= .ext fun h=>j3 h ea D
inductive D where
 |non | bl (b:Bool) | int (i:Int) | str (x:Str) | raw (v:V) | exc (C:Addr) | scr (l:List Int) | tup (l:List D) | lst (l:List D)
 |dct (ks:List (List Key)) (l:List D) | dci (ks:List Key) (l:List D)
instance:Inhabited D:=⟨.non⟩
def lim:Nat:=4096
theorem a7:lim<sizeLine:=by rw[sizeLine_eq];decide
mutual
def Den (K:PySem.W.Frag) (F:Hp):D→V→Prop
 | .non,v=>v= .non
 | .bl b,v=>v= .bl b
 | .int i,v=>v= .int i
 | .str x,v=>v= .str x∧x.length≤lim
 | .raw u,v=>v=u
 | .exc C,v=>∃ea,v= .ref ea∧F ea=some (ExO ea C)
 | .scr ns,v=>∃a,v= .ref a∧SqL K F a (ns.map V.int)∧ns.length≤lim
 | .tup ds,v=>∃a vs,v= .ref a∧F a=some (.tup vs)∧DenL K F ds vs∧ds.length≤lim
 | .lst ds,v=>∃a vs,v= .ref a∧F a=some (.lst vs)∧DenL K F ds vs∧ds.length≤lim
 | .dct ks ds,v=>∃a ob vs,v= .ref a∧F a=some (.frz ob (.dT (ks.zip vs)))∧DenL K F ds vs∧ks.length=ds.length∧ds.length≤lim
 | .dci ks ds,v=>∃a ob vs,v= .ref a∧F a=some (.frz ob (.dK (ks.zip vs)))∧DenL K F ds vs∧ks.length=ds.length∧ds.length≤lim
def DenL (K:PySem.W.Frag) (F:Hp):List D→List V→Prop
 |[],vs=>vs=[]
 |d::ds,vs=>∃v r,vs=v::r∧Den K F d v∧DenL K F ds r
end
theorem Same.rd {H H':Hp}{a:Addr}{u:HO}(e:Same H H') (h:Rd H a u):Rd H' a u:=by
 rcases h with h | ⟨o,h⟩
 ·exact .inl (e _ _ h)
 ·exact .inr ⟨o,e _ _ h⟩
theorem Same.tup {K:PySem.W.Frag}{H H':Hp}{a:Addr}{xs:List V}(e:Same H H') (h:SqT K H a xs):SqT K H' a xs:=by
 rcases h with h | h
 ·exact .inl (Same.rd e h)
 ·exact .inr h
section
variable {K : PySem.W.Frag} {F F' : Hp}
mutual
theorem Den.mono (e:Same F F'):∀{d:D}{v:V},Den K F d v→Den K F' d v
 | .non,_,h=>h
 | .bl _,_,h=>h
 | .int _,_,h=>h
 | .str _,_,h=>h
 | .raw _,_,h=>h
 | .exc _,_,⟨a,h1,h2⟩=>⟨a,h1,e _ _ h2⟩
 | .scr _,_,⟨a,h1,h2,h3⟩=>⟨a,h1,Same.seq e h2,h3⟩
 | .tup _,_,⟨a,vs,h1,h2,h3,h4⟩=>⟨a,vs,h1,e _ _ h2,DenL.mono e h3,h4⟩
 | .lst _,_,⟨a,vs,h1,h2,h3,h4⟩=>⟨a,vs,h1,e _ _ h2,DenL.mono e h3,h4⟩
 | .dct _ _,_,⟨a,ob,vs,h1,h2,h3,h4⟩=>⟨a,ob,vs,h1,e _ _ h2,DenL.mono e h3,h4⟩
 | .dci _ _,_,⟨a,ob,vs,h1,h2,h3,h4⟩=>⟨a,ob,vs,h1,e _ _ h2,DenL.mono e h3,h4⟩
theorem DenL.mono (e:Same F F'):∀{ds:List D}{vs:List V},DenL K F ds vs→DenL K F' ds vs
 |[],_,h=>h
 |_::_,_,⟨v,r,h1,h2,h3⟩=>⟨v,r,h1,Den.mono e h2,DenL.mono e h3⟩
end
theorem DenL.nil:DenL K F [] []:=rfl
theorem DenL.cons {d:D}{v:V}{ds:List D}{vs:List V}(h:Den K F d v) (r:DenL K F ds vs):DenL K F (d::ds) (v::vs):=⟨v,vs,rfl,h,r⟩
theorem DenL.len:∀{ds:List D}{vs:List V},DenL K F ds vs→ds.length=vs.length
 |[],_,h=>by cases (show _=_ from h);rfl
 |_::ds,_,⟨v,r,h1,_,h3⟩=>by subst h1;rw[List.length_cons,List.length_cons,DenL.len h3]
theorem DenL.get:∀{ds:List D}{vs:List V}{i:Nat}{d:D},DenL K F ds vs→ds[i]? =some d→∃v,vs[i]? =some v∧Den K F d v
 |[],_,_,_,_,e=>by simp at e
 |d::ds,_,0,_,⟨v,r,h1,h2,h3⟩,e=>by subst h1;simp at e;subst e;exact⟨v,rfl,h2⟩
 |d::ds,_,i+1,_,⟨v,r,h1,h2,h3⟩,e=>by
  subst h1
  obtain⟨w,e1,e2⟩:=DenL.get (i:=i) h3 (by simpa using e)
  exact⟨w,by simpa using e1,e2⟩
theorem DenL.at:∀{ds:List D}{vs:List V}{i:Nat}{v:V},DenL K F ds vs→vs[i]? =some v→∃d,ds[i]? =some d∧Den K F d v
 |[],_,_,_,h,e=>by cases (show _=_ from h);simp at e
 |d::ds,_,0,_,⟨v,r,h1,h2,h3⟩,e=>by subst h1;simp at e;subst e;exact⟨d,rfl,h2⟩
 |d::ds,_,i+1,_,⟨v,r,h1,h2,h3⟩,e=>by
  subst h1
  obtain⟨w,e1,e2⟩:=DenL.at (i:=i) h3 (by simpa using e)
  exact⟨w,by simpa using e1,e2⟩
theorem DenL.append:∀{ds es:List D}{vs ws:List V},DenL K F ds vs→DenL K F es ws→DenL K F (ds++es) (vs++ws)
 |[],_,_,_,h,h'=>by cases (show _=_ from h);exact h'
 |d::ds,_,_,_,⟨v,r,h1,h2,h3⟩,h'=>by subst h1;exact⟨v,_,rfl,h2,DenL.append h3 h'⟩
theorem DenL.take:∀{ds:List D}{vs:List V}(n:Nat),DenL K F ds vs→DenL K F (ds.take n) (vs.take n)
 |_,_,0,_=>by simp[List.take];rfl
 |[],_,_+1,h=>by cases (show _=_ from h);rfl
 |d::ds,_,n+1,⟨v,r,h1,h2,h3⟩=>by subst h1;exact⟨v,_,rfl,h2,DenL.take n h3⟩
theorem DenL.drop:∀{ds:List D}{vs:List V}(n:Nat),DenL K F ds vs→DenL K F (ds.drop n) (vs.drop n)
 |_,_,0,h=>by simpa using h
 |[],_,_+1,h=>by cases (show _=_ from h);rfl
 |d::ds,_,n+1,⟨v,r,h1,h2,h3⟩=>by subst h1;exact DenL.drop n h3
theorem DenL.reverse:∀{ds:List D}{vs:List V},DenL K F ds vs→DenL K F ds.reverse vs.reverse
 |[],_,h=>by cases (show _=_ from h);rfl
 |d::ds,_,⟨v,r,h1,h2,h3⟩=>by
  subst h1
  rw[List.reverse_cons,List.reverse_cons]
  exact DenL.append (DenL.reverse h3) (.cons h2 .nil)
theorem DenL.ints (ns:List Int):DenL K F (ns.map D.int) (ns.map V.int):=by
 induction ns with
 |nil=>rfl
 |cons n ns ih=>exact .cons rfl ih
end
structure Ext (F H F' H':Hp):Prop where
 hh:Same H H'
 ff:Same F F'
 fh:Same F' H'
 new:∀a,H a≠none→F' a=F a∨∃ts,H a=some (.tup ts)
theorem Ext.old {F H F' H':Hp}(e:Ext F H F' H') {a:Addr}{o:HO}(h:H a=some o) (hn:∀ts,o≠ .tup ts):F' a=F a:=by
 rcases e.new a (by rw[h];exact fun z=>nomatch z) with q | ⟨ts,q⟩
 ·exact q
 ·rw[h] at q;cases q;exact absurd rfl (hn ts)
theorem Ext.refl {F H:Hp}(h:Same F H):Ext F H F H:=⟨Same.refl _,Same.refl _,h,fun _ _=> .inl rfl⟩
theorem Ext.trans {F H F' H' F'' H'':Hp}(a:Ext F H F' H') (b:Ext F' H' F'' H''):Ext F H F'' H'':=
 ⟨a.hh.trans b.hh,a.ff.trans b.ff,b.fh,fun c hc=>by
  have:H' c≠none:=by
   cases q:H c with
   |none=>exact absurd q hc
   |some o=>rw[a.hh c o q];exact fun z=>nomatch z
  rcases a.new c hc with p | p
  ·rcases b.new c this with q | ⟨ts,q⟩
   ·exact .inl (q.trans p)
   ·cases z:H c with
    |none=>exact absurd z hc
    |some o=>
     rw[a.hh c o z] at q
     exact .inr ⟨ts,q⟩
  ·exact .inr p⟩
theorem Ext.lay {F H:Hp}{a:Addr}{o:HO}(h:Same F H) (n:H a=none):Ext F H (upd F a o) (upd H a o):=by
 have nf:F a=none:=Same.free h n
 refine⟨fun b u e=>?_,fun b u e=>?_,fun b u e=>?_,fun b hb=>?_⟩
 ·rw[aj (aM e n)];exact e
 ·rw[aj (aM e nf)];exact e
 ·by_cases q:b=a
  ·subst q;rw[au] at e⊢;exact e
  ·rw[aj q] at e⊢;exact h b u e
 ·exact .inl (aj fun z=>hb (by rw[z];exact n))
theorem Ext.free {F H:Hp}{a:Addr}{o:HO}(h:Same F H) (n:H a=none):Ext F H F (upd H a o):=
 ⟨fun b u e=>by rw[aj (aM e n)];exact e,Same.refl _,fun b u e=>by rw[aj (aM (h b u e) n)];exact h b u e,fun _ _=> .inl rfl⟩
def WP (K:PySem.W.Frag) (Xw:Nat→Hp→Prop) (F H:Hp) (m:M D) (Q:VK):Prop:=
 match m with
 |none=>False
 |some (.ok d)=>∀v H' F',Ext F H F' H'→Den K F' d v→Q v H'
 |some (.ex n)=>∀F' H',Ext F H F' H'→Xw n H'
def WPL (K:PySem.W.Frag) (Xw:Nat→Hp→Prop) (F H:Hp) (m:M (List D)) (Q:List V→Hp→Prop):Prop:=
 match m with
 |none=>False
 |some (.ok ds)=>∀vs H' F',Ext F H F' H'→DenL K F' ds vs→Q vs H'
 |some (.ex n)=>∀F' H',Ext F H F' H'→Xw n H'
def WPB (Xw:Nat→Hp→Prop) (F H:Hp) (m:M Bool) (Q:Bool→Hp→Prop):Prop:=
 match m with
 |none=>False
 |some (.ok b)=>∀H' F',Ext F H F' H'→Q b H'
 |some (.ex n)=>∀F' H',Ext F H F' H'→Xw n H'
section
variable {K : PySem.W.Frag} {Xw : Nat → Hp → Prop} {F F' H H' : Hp} {Q : VK}
theorem WP.ext {m:M D}(e:Ext F H F' H') (h:WP K Xw F H m Q):WP K Xw F' H' m Q:=by
 match m,h with
 |none,h=>exact h
 |some (.ok d),h=>exact fun v H2 F2 e2 q=>h v H2 F2 (e.trans e2) q
 |some (.ex n),h=>exact fun F2 H2 e2=>h F2 H2 (e.trans e2)
theorem WPL.ext {m:M (List D)}{Q:List V→Hp→Prop}(e:Ext F H F' H') (h:WPL K Xw F H m Q):WPL K Xw F' H' m Q:=by
 match m,h with
 |none,h=>exact h
 |some (.ok d),h=>exact fun v H2 F2 e2 q=>h v H2 F2 (e.trans e2) q
 |some (.ex n),h=>exact fun F2 H2 e2=>h F2 H2 (e.trans e2)
theorem WPB.ext {m:M Bool}{Q:Bool→Hp→Prop}(e:Ext F H F' H') (h:WPB Xw F H m Q):WPB Xw F' H' m Q:=by
 match m,h with
 |none,h=>exact h
 |some (.ok d),h=>exact fun H2 F2 e2=>h H2 F2 (e.trans e2)
 |some (.ex n),h=>exact fun F2 H2 e2=>h F2 H2 (e.trans e2)
theorem WP.fin {d:D}{v:V}(h:WP K Xw F H (M.ret d) Q) (e:Ext F H F' H') (q:Den K F' d v):Q v H':=h v H' F' e q
theorem WP.now {d:D}{v:V}(h:WP K Xw F H (M.ret d) Q) (s:Same F H) (q:Den K F d v):Q v H:=h v H F (Ext.refl s) q
theorem WP.bind {m:M D}{k:D→M D}(h:WP K Xw F H (m>>=k) Q):WP K Xw F H m fun v H1=>∃F1 d,Ext F H F1 H1∧Den K F1 d v∧WP K Xw F1 H1 (k d) Q:=by
 match m,h with
 |none,h=>exact h
 |some (.ok d),h=>exact fun v H2 F2 e2 q=>⟨F2,d,e2,q,WP.ext e2 (show WP K Xw F H (k d) Q from h)⟩
 |some (.ex n),h=>exact h
theorem WP.bindL {m:M (List D)}{k:List D→M D}(h:WP K Xw F H (m>>=k) Q):WPL K Xw F H m fun vs H1=>∃F1 ds,Ext F H F1 H1∧DenL K F1 ds vs∧WP K Xw F1 H1 (k ds) Q:=by
 match m,h with
 |none,h=>exact h
 |some (.ok d),h=>exact fun v H2 F2 e2 q=>⟨F2,d,e2,q,WP.ext e2 (show WP K Xw F H (k d) Q from h)⟩
 |some (.ex n),h=>exact h
theorem WP.bindB {m:M Bool}{k:Bool→M D}(h:WP K Xw F H (m>>=k) Q):WPB Xw F H m fun b H1=>∃F1,Ext F H F1 H1∧WP K Xw F1 H1 (k b) Q:=by
 match m,h with
 |none,h=>exact h
 |some (.ok d),h=>exact fun H2 F2 e2=>⟨F2,e2,WP.ext e2 (show WP K Xw F H (k d) Q from h)⟩
 |some (.ex n),h=>exact h
theorem WPB.bind {m:M D}{k:D→M Bool}{Q:Bool→Hp→Prop}(h:WPB Xw F H (m>>=k) Q):WP K Xw F H m fun v H1=>∃F1 d,Ext F H F1 H1∧Den K F1 d v∧WPB Xw F1 H1 (k d) Q:=by
 match m,h with
 |none,h=>exact h
 |some (.ok d),h=>exact fun v H2 F2 e2 q=>⟨F2,d,e2,q,WPB.ext e2 (show WPB Xw F H (k d) Q from h)⟩
 |some (.ex n),h=>exact h
theorem WPB.bindB {m:M Bool}{k:Bool→M Bool}{Q:Bool→Hp→Prop}(h:WPB Xw F H (m>>=k) Q):WPB Xw F H m fun b H1=>∃F1,Ext F H F1 H1∧WPB Xw F1 H1 (k b) Q:=by
 match m,h with
 |none,h=>exact h
 |some (.ok d),h=>exact fun H2 F2 e2=>⟨F2,e2,WPB.ext e2 (show WPB Xw F H (k d) Q from h)⟩
 |some (.ex n),h=>exact h
theorem WPL.bind {m:M D}{k:D→M (List D)}{Q:List V→Hp→Prop}(h:WPL K Xw F H (m>>=k) Q):WP K Xw F H m fun v H1=>∃F1 d,Ext F H F1 H1∧Den K F1 d v∧WPL K Xw F1 H1 (k d) Q:=by
 match m,h with
 |none,h=>exact h
 |some (.ok d),h=>exact fun v H2 F2 e2 q=>⟨F2,d,e2,q,WPL.ext e2 (show WPL K Xw F H (k d) Q from h)⟩
 |some (.ex n),h=>exact h
theorem WPL.bindL {m:M (List D)}{k:List D→M (List D)}{Q:List V→Hp→Prop}(h:WPL K Xw F H (m>>=k) Q):WPL K Xw F H m fun vs H1=>∃F1 ds,Ext F H F1 H1∧DenL K F1 ds vs∧WPL K Xw F1 H1 (k ds) Q:=by
 match m,h with
 |none,h=>exact h
 |some (.ok d),h=>exact fun v H2 F2 e2 q=>⟨F2,d,e2,q,WPL.ext e2 (show WPL K Xw F H (k d) Q from h)⟩
 |some (.ex n),h=>exact h
theorem WP.mono {m:M D}{Q':VK}(h:WP K Xw F H m Q) (k:∀v H',Q v H'→Q' v H'):WP K Xw F H m Q':=by
 match m,h with
 |none,h=>exact h
 |some (.ok d),h=>exact fun v H2 F2 e2 q=>k _ _ (h v H2 F2 e2 q)
 |some (.ex n),h=>exact h
theorem WPL.mono {m:M (List D)}{Q Q':List V→Hp→Prop}(h:WPL K Xw F H m Q) (k:∀v H',Q v H'→Q' v H'):WPL K Xw F H m Q':=by
 match m,h with
 |none,h=>exact h
 |some (.ok d),h=>exact fun v H2 F2 e2 q=>k _ _ (h v H2 F2 e2 q)
 |some (.ex n),h=>exact h
theorem WPB.mono {m:M Bool}{Q Q':Bool→Hp→Prop}(h:WPB Xw F H m Q) (k:∀v H',Q v H'→Q' v H'):WPB Xw F H m Q':=by
 match m,h with
 |none,h=>exact h
 |some (.ok d),h=>exact fun H2 F2 e2=>k _ _ (h H2 F2 e2)
 |some (.ex n),h=>exact h
end
inductive C where
 |lst (l:List D) | dct (ks:List (List Key)) (l:List D) | dci (ks:List Key) (l:List D)
def C.d:C→D
 | .lst ds=> .lst ds
 | .dct ks ds=> .dct ks ds
 | .dci ks ds=> .dci ks ds
inductive Sl where
 |fz (d:D) | ow (c:C)
abbrev Rho:=List (Option Sl)
def DenC (K:PySem.W.Frag) (F:Hp):C→HO→Prop
 | .lst ds,o=>∃vs,o= .lst vs∧DenL K F ds vs∧ds.length≤lim
 | .dct ks ds,o=>∃vs,o= .dT (ks.zip vs)∧DenL K F ds vs∧ks.length=ds.length∧ds.length≤lim
 | .dci ks ds,o=>∃vs,o= .dK (ks.zip vs)∧DenL K F ds vs∧ks.length=ds.length∧ds.length≤lim
theorem DenC.mono {K:PySem.W.Frag}{F F':Hp}(e:Same F F'):∀{c:C}{o:HO},DenC K F c o→DenC K F' c o
 | .lst _,_,⟨vs,h1,h2,h3⟩=>⟨vs,h1,DenL.mono e h2,h3⟩
 | .dct _ _,_,⟨vs,h1,h2,h3⟩=>⟨vs,h1,DenL.mono e h2,h3⟩
 | .dci _ _,_,⟨vs,h1,h2,h3⟩=>⟨vs,h1,DenL.mono e h2,h3⟩
theorem DenC.notup {K:PySem.W.Frag}{F:Hp}:∀{c:C}{o:HO},DenC K F c o→∀ts,o≠ .tup ts
 | .lst _,_,⟨_,h1,_⟩,ts,z=>by rw[h1] at z;cases z
 | .dct _ _,_,⟨_,h1,_⟩,ts,z=>by rw[h1] at z;cases z
 | .dci _ _,_,⟨_,h1,_⟩,ts,z=>by rw[h1] at z;cases z
def gT (ob:Obj):HO→HO
 | .dT kvs=> .frz ob (.dT kvs)
 | .dK kvs=> .frz ob (.dK kvs)
 |o=>o
theorem DenC.den {K:PySem.W.Frag}{F F':Hp}{a:Addr}{ob:Obj}:∀{c:C}{o:HO},DenC K F c o→Same F F'→F' a=some (gT ob o)→Den K F' c.d (.ref a)
 | .lst _,_,⟨vs,h1,h2,h3⟩,e,q=>by subst h1;exact⟨a,vs,rfl,q,DenL.mono e h2,h3⟩
 | .dct _ _,_,⟨vs,h1,h2,h3⟩,e,q=>by subst h1;exact⟨a,ob,vs,rfl,q,DenL.mono e h2,h3⟩
 | .dci _ _,_,⟨vs,h1,h2,h3⟩,e,q=>by subst h1;exact⟨a,ob,vs,rfl,q,DenL.mono e h2,h3⟩
def DenO (K:PySem.W.Frag) (F H:Hp):Sl→V→Prop
 | .fz d,v=>Den K F d v
 | .ow c,v=>∃a o,v= .ref a∧H a=some o∧F a=none∧DenC K F c o
structure StE (K:PySem.W.Frag) (F H:Hp) (σ:St) (ρ:Rho):Prop where
 fh:Same F H
 den:∀(i:Nat) (sl:Sl),ρ[i]? =some (some sl)→∃v,σ[i]? =some (some v)∧DenO K F H sl v
theorem DenO.ext {K:PySem.W.Frag}{F H F' H':Hp}(e:Ext F H F' H'):∀{sl:Sl}{v:V},DenO K F H sl v→DenO K F' H' sl v
 | .fz _,_,h=>Den.mono e.ff h
 | .ow _,_,⟨a,o,h1,h2,h3,h4⟩=>⟨a,o,h1,e.hh _ _ h2,by rw[e.old h2 h4.notup];exact h3,DenC.mono e.ff h4⟩
theorem StE.ext {K:PySem.W.Frag}{F H F' H':Hp}{σ:St}{ρ:Rho}(s:StE K F H σ ρ) (e:Ext F H F' H'):StE K F' H' σ ρ:=
 ⟨e.fh,fun i sl q=>let ⟨v,h1,h2⟩:=s.den i sl q;⟨v,h1,h2.ext e⟩⟩
abbrev DE:=Rho→M D
abbrev DT:=Rho→M Bool
abbrev DA:=Rho→M (List D)
def tD (K:PySem.W.Frag) (Xw:Nat→Hp→Prop) (δ:DE):TE:=fun σ H Q=>∃F ρ,StE K F H σ ρ∧WP K Xw F H (δ ρ) Q
def tDT (K:PySem.W.Frag) (Xw:Nat→Hp→Prop) (δ:DT):TT:=fun σ H Q=>∃F ρ,StE K F H σ ρ∧WPB Xw F H (δ ρ) Q
def tDA (K:PySem.W.Frag) (Xw:Nat→Hp→Prop) (δ:DA):TA:=fun σ H Q=>∃F ρ,StE K F H σ ρ∧WPL K Xw F H (δ ρ) Q
def PD (X:Cx) (Xw:Nat→Hp→Prop) (e:Expr) (δ:DE):Prop:=PE X e (tD X.K Xw δ)
def PDT (X:Cx) (Xw:Nat→Hp→Prop) (e:Expr) (δ:DT):Prop:=PT X e (tDT X.K Xw δ)
def PDA (X:Cx) (Xw:Nat→Hp→Prop) (es:List Expr) (δ:DA):Prop:=PA X es (tDA X.K Xw δ)
theorem PE.weak {X:Cx}{e:Expr}{t t':TE}(h:PE X e t) (k:∀σ H Q,t' σ H Q→t σ H Q):PE X e t':=fun pins s σ H Q I w=>h pins s σ H Q I (k σ H Q w)
theorem PT.weak {X:Cx}{e:Expr}{t t':TT}(h:PT X e t) (k:∀σ H Q,t' σ H Q→t σ H Q):PT X e t':=fun pins s σ H Q I w=>h pins s σ H Q I (k σ H Q w)
theorem PA.weak {X:Cx}{e:List Expr}{t t':TA}(h:PA X e t) (k:∀σ H Q,t' σ H Q→t σ H Q):PA X e t':=fun pos pins s σ H Q I w=>h pos pins s σ H Q I (k σ H Q w)
def dV (i:Nat):DE:=fun ρ=>match ρ[i]? with
 |some (some (.fz d))=>M.ret d
 |_=>M.stuck
def dC (d:D):DE:=fun _=>M.ret d
def d1 (g:D→M D) (a:DE):DE:=fun ρ=>a ρ>>=g
def d2 (g:D→D→M D) (a b:DE):DE:=fun ρ=>a ρ>>=fun x=>b ρ>>=fun y=>g x y
def aN:DA:=fun _=>M.ret []
def aC (a:DE) (r:DA):DA:=fun ρ=>a ρ>>=fun x=>r ρ>>=fun xs=>M.ret (x::xs)
def dA (g:List D→M D) (a:DA):DE:=fun ρ=>a ρ>>=g
def blM:D→M Bool
 | .bl b=>M.ret b
 |_=>M.stuck
def tB' (a:DE):DT:=fun ρ=>a ρ>>=blM
def jE (a b:DT):DT:=fun ρ=>a ρ>>=fun x=>if x then b ρ else M.ret false
def dOr (a b:DT):DT:=fun ρ=>a ρ>>=fun x=>if x then M.ret true else b ρ
def bt (a:DT):DT:=fun ρ=>a ρ>>=fun x=>M.ret (!x)
def dIf (c:DT) (a b:DE):DE:=fun ρ=>c ρ>>=fun x=>if x then a ρ else b ρ
def b5 (a b:DE):DE:=fun ρ=>a ρ>>=fun x=>blM x>>=fun c=>if c then b ρ else M.ret (.bl false)
section
variable {X : Cx} {Xw : Nat → Hp → Prop} {a b : Expr} {δa δb : DE} {pos : Pos}
theorem ae {i:Nat}{x:Str}(h:PE X (.Name x pos) (mQ i)):PD X Xw (.Name x pos) (dV i):=PE.weak h fun σ H Q ⟨F,ρ,s,w⟩=>by
 unfold dV at w
 split at w
 ·rename_i d e
  obtain⟨v,h1,h2⟩:=s.den i _ e
  exact⟨v,h1,WP.now w s.fh h2⟩
 ·exact w.elim
theorem cu {e:Expr}{d:D}{v:V}(h:PE X e (tC v)) (hd:∀F,Den X.K F d v):PD X Xw e (dC d):=PE.weak h fun σ H Q ⟨F,ρ,s,w⟩=>WP.now w s.fh (hd F)
theorem ao {i j}:PD X Xw (.Constant (.int i) j pos) (dC (.int i)):=cu pw fun _=>rfl
theorem ez {i j}:PD X Xw (.Constant (.bool i) j pos) (dC (.bl i)):=cu qc fun _=>rfl
theorem me {j}:PD X Xw (.Constant .none j pos) (dC .non):=cu pz fun _=>rfl
theorem aP {x j} (h:x.length≤lim:=by decide):PD X Xw (.Constant (.str x) j pos) (dC (.str x)):=cu pC fun _=>⟨rfl,h⟩
def OpD (K:PySem.W.Frag) (r:R2) (g:D→D→M D):Prop:=∀(Xw:Nat→Hp→Prop) (F H:Hp) (x y:V) (dx dy:D) (Q:VK),Same F H→Den K F dx x→Den K F dy y→WP K Xw F H (g dx dy) Q→r x y H Q
theorem iB {r:R2}{g:D→D→M D}(hg:OpD X.K r g):∀σ H Q,tD X.K Xw (d2 g δa δb) σ H Q→tOp r (tD X.K Xw δa) (tD X.K Xw δb) σ H Q:=fun σ H Q ⟨F,ρ,s,w⟩=>by
 refine⟨F,ρ,s,WP.mono (WP.bind w) fun v H1 ⟨F1,d,e1,q1,w1⟩=>?_⟩
 refine⟨F1,ρ,s.ext e1,WP.mono (WP.bind w1) fun u H2 ⟨F2,d',e2,q2,w2⟩=>?_⟩
 exact hg Xw F2 H2 v u d d' Q e2.fh (Den.mono e2.ff q1) q2 w2
theorem eA {op:Operator}{r:R2}{g:D→D→M D}(ho:OpR X (binaryOp op) r) (hg:OpD X.K r g) (ha:PD X Xw a δa) (hb:PD X Xw b δb):PD X Xw (.BinOp a op b pos) (d2 g δa δb):=
 PE.weak (oG ho ha hb) (iB hg)
theorem l_ {op:CmpOp}{r:R2}{g:D→D→M D}(ho:OpR X (compareOp op) r) (hg:OpD X.K r g) (ha:PD X Xw a δa) (hb:PD X Xw b δb) (hm:behindInMarks op b=false:=by first | exact lX _ | rfl):PD X Xw (.Compare a [op] [b] pos) (d2 g δa δb):=
 PE.weak (nR ho ha hb hm) (iB hg)
theorem kx {op:CmpOp}{r:R2}{g:D→D→M D}(ho:OpR X (compareOp op) r) (hg:OpD X.K r g) (ha:PD X Xw a δa) (hb:PD X Xw b δb) (hm:behindInMarks op b=false:=by first | exact lX _ | rfl):PDT X Xw (.Compare a [op] [b] pos) (tB' (d2 g δa δb)):=
 PT.weak (n3 ho ha hb hm) fun σ H Q ⟨F,ρ,s,w⟩=>by
  refine iB hg σ H _ ⟨F,ρ,s,WP.mono (WPB.bind w) fun v H1 ⟨F1,d,e1,q1,w1⟩=>?_⟩
  cases d with
  |bl k=>exact⟨k,q1,w1 _ _ (Ext.refl e1.fh)⟩
  |_=>exact w1.elim
theorem kl {r:R2}{g:D→D→M D}(hr:IxR X r) (hg:OpD X.K r g) (ha:PD X Xw a δa) (hb:PD X Xw b δb) (hs:cU b:=by intro _ _;rfl):PD X Xw (.Subscript a b pos) (d2 g δa δb):=
 PE.weak (qd hr ha hb hs) (iB hg)
theorem ah:PDA X Xw [] aN:=PA.weak l9 fun σ H Q ⟨F,ρ,s,w⟩=>w [] H F (Ext.refl s.fh) rfl
theorem aa {es:List Expr}{δs:DA}(ha:PD X Xw a δa) (hr:PDA X Xw es δs) (hs:starEach (a::es) X.env=(false,eval a X.env)::starEach es X.env:=by rfl):PDA X Xw (a::es) (aC δa δs):=
 PA.weak (kh ha hr hs) fun σ H Q ⟨F,ρ,s,w⟩=>by
  refine⟨F,ρ,s,WP.mono (WPL.bind w) fun v H1 ⟨F1,d,e1,q1,w1⟩=>?_⟩
  refine⟨F1,ρ,s.ext e1,WPL.mono (WPL.bindL w1) fun vs H2 ⟨F2,ds,e2,q2,w2⟩=>?_⟩
  exact w2 _ _ _ (Ext.refl e2.fh) (.cons (Den.mono e2.ff q1) q2)
def i4 (ds:List D):M D:=if ds.length≤lim then M.ret (.tup ds) else M.stuck
def bz (ds:List D):M D:=if ds.length≤lim then M.ret (.lst ds) else M.stuck
theorem jQ {ds:List D}{f:List D→D}{Q:VK}{F H:Hp}(w:WP X.K Xw F H (if ds.length≤lim then M.ret (f ds) else M.stuck) Q):ds.length≤lim∧WP X.K Xw F H (M.ret (f ds)) Q:=by
 split at w
 ·rename_i h;exact⟨h,w⟩
 ·exact w.elim
theorem mh {x1} {es:List Expr}{δs:DA}(h:PDA X Xw es δs):PD X Xw (.Tuple es x1 pos) (dA i4 δs):=PE.weak (pE h) fun σ H Q ⟨F,ρ,s,w⟩=>by
 refine⟨F,ρ,s,WPL.mono (WP.bindL w) fun vs H1 ⟨F1,ds,e1,q1,w1⟩=>?_⟩
 obtain⟨hl,w1⟩:=jQ (X:=X) w1
 have hv:=q1.len
 refine⟨by have:=a7;omega,fun p hp=>WP.fin w1 (Ext.lay e1.fh hp) ⟨p,vs,rfl,au,DenL.mono (Ext.lay e1.fh hp).ff q1,hl⟩⟩
theorem d6 {es:List Expr}{δs:DA}(h:PDA X Xw es δs):PD X Xw (.List es pos) (dA bz δs):=PE.weak (ml h) fun σ H Q ⟨F,ρ,s,w⟩=>by
 refine⟨F,ρ,s,WPL.mono (WP.bindL w) fun vs H1 ⟨F1,ds,e1,q1,w1⟩=>?_⟩
 obtain⟨hl,w1⟩:=jQ (X:=X) w1
 have hv:=q1.len
 refine⟨by have:=a7;omega,fun p hp=>WP.fin w1 (Ext.lay e1.fh hp) ⟨p,vs,rfl,au,DenL.mono (Ext.lay e1.fh hp).ff q1,hl⟩⟩
end
end L3
namespace L3
open PySem PySem.Spec L2
open PyProof.Rows hiding St
def ItD (K:PySem.W.Frag) (F:Hp) (J:It) (ds:List D):Prop:=∀(F' H':Hp) (i:Nat),Same F F'→Same F' H'→
 (∀d,ds[i]? =some d→J.go i H'∧∀x H'',J.yld i H' x H''→∃F'',Ext F' H' F'' H''∧Den K F'' d x)∧(ds.length≤i→J.stop i H')
def WPI (K:PySem.W.Frag) (Xw:Nat→Hp→Prop) (F H:Hp) (m:M (List D)) (R:It→Hp→Prop):Prop:=
 match m with
 |none=>False
 |some (.ok ds)=>∀J H' F',Ext F H F' H'→ItD K F' J ds→R J H'
 |some (.ex n)=>∀F' H',Ext F H F' H'→Xw n H'
def tDI (K:PySem.W.Frag) (Xw:Nat→Hp→Prop) (δ:DA):TI:=fun σ H R=>∃F ρ,StE K F H σ ρ∧WPI K Xw F H (δ ρ) R
def PDI (X:Cx) (Xw:Nat→Hp→Prop) (tg iter:Expr) (δ:DA):Prop:=PI X tg iter (tDI X.K Xw δ)
theorem PI.weak {X:Cx}{tg e:Expr}{t t':TI}(h:PI X tg e t) (k:∀σ H Q,t' σ H Q→t σ H Q):PI X tg e t':=fun pins s σ H Q I w=>h pins s σ H Q I (k σ H Q w)
theorem WPI.bind {K:PySem.W.Frag}{Xw:Nat→Hp→Prop}{F H:Hp}{m:M D}{k:D→M (List D)}{R:It→Hp→Prop}(h:WPI K Xw F H (m>>=k) R):
 WP K Xw F H m fun v H1=>∃F1 d,Ext F H F1 H1∧Den K F1 d v∧WPI K Xw F1 H1 (k d) R:=by
 match m,h with
 |none,h=>exact h
 |some (.ok d),h=>
  refine fun v H2 F2 e2 q=>⟨F2,d,e2,q,?_⟩
  have h:WPI K Xw F H (k d) R:=h
  show WPI K Xw F2 H2 (k d) R
  match k d,h with
  |none,h=>exact h
  |some (.ok ds),h=>exact fun J H3 F3 e3 q3=>h J H3 F3 (e2.trans e3) q3
  |some (.ex n),h=>exact fun F3 H3 e3=>h F3 H3 (e2.trans e3)
 |some (.ex n),h=>exact h
theorem WPI.bindL {K:PySem.W.Frag}{Xw:Nat→Hp→Prop}{F H:Hp}{m:M (List D)}{k:List D→M (List D)}{R:It→Hp→Prop}(h:WPI K Xw F H (m>>=k) R):
 WPL K Xw F H m fun v H1=>∃F1 d,Ext F H F1 H1∧DenL K F1 d v∧WPI K Xw F1 H1 (k d) R:=by
 match m,h with
 |none,h=>exact h
 |some (.ok d),h=>
  refine fun v H2 F2 e2 q=>⟨F2,d,e2,q,?_⟩
  have h:WPI K Xw F H (k d) R:=h
  show WPI K Xw F2 H2 (k d) R
  match k d,h with
  |none,h=>exact h
  |some (.ok ds),h=>exact fun J H3 F3 e3 q3=>h J H3 F3 (e2.trans e3) q3
  |some (.ex n),h=>exact fun F3 H3 e3=>h F3 H3 (e2.trans e3)
 |some (.ex n),h=>exact h
def lstM:D→M (List D)
 | .lst ds=>M.ret ds
 |_=>M.stuck
def qY:D→M (List D)
 | .tup ds=>M.ret ds
 |_=>M.stuck
def mX (a:DE):DA:=fun ρ=>a ρ>>=lstM
def gO (a:DE):DA:=fun ρ=>a ρ>>=qY
theorem lQ {K:PySem.W.Frag}{F:Hp}{a:Addr}{vs:List V}{ds:List D}(h:SqL K F a vs) (hd:DenL K F ds vs):ItD K F (Itl K a) ds:=fun F' H' i s1 s2=>by
 have hs:=Same.seq s2 (Same.seq s1 h)
 refine⟨fun d e=>?_,fun hl=>⟨vs,hs,by rw[←hd.len];exact hl⟩⟩
 obtain⟨v,e1,q⟩:=hd.get e
 refine⟨⟨vs,v,hs,e1⟩,fun x H'' y=>?_⟩
 obtain⟨e2,y⟩:=y
 subst e2
 have:=y vs hs
 rw[e1] at this
 cases this
 exact⟨F',Ext.refl s2,Den.mono s1 q⟩
theorem m_ {K:PySem.W.Frag}{F:Hp}{a:Addr}{vs:List V}{ds:List D}(h:SqT K F a vs) (hd:DenL K F ds vs):ItD K F (Itt K a) ds:=fun F' H' i s1 s2=>by
 have hs:=Same.tup s2 (Same.tup s1 h)
 refine⟨fun d e=>?_,fun hl=>⟨vs,hs,by rw[←hd.len];exact hl⟩⟩
 obtain⟨v,e1,q⟩:=hd.get e
 refine⟨⟨vs,v,hs,e1⟩,fun x H'' y=>?_⟩
 obtain⟨e2,y⟩:=y
 subst e2
 have:=y vs hs
 rw[e1] at this
 cases this
 exact⟨F',Ext.refl s2,Den.mono s1 q⟩
def dI (lo:Int) (n:Nat):List D:=(List.range n).map fun(i:Nat)=>D.int (lo+(i:Int))
theorem kX {K:PySem.W.Frag}{F:Hp}(lo:Int) (n:Nat):ItD K F (Itr lo n) (dI lo n):=fun F' H' i s1 s2=>by
 refine⟨fun d e=>?_,fun hl=>show n≤i by simpa[dI] using hl⟩
 unfold dI at e
 rw[List.getElem?_map] at e
 have hi:i<n:=by
  by_cases hi:i<n
  ·exact hi
  ·rw[List.getElem?_eq_none (by simpa using hi)] at e;cases e
 rw[List.getElem?_range hi] at e
 cases e
 refine⟨hi,fun x H'' y=>?_⟩
 obtain⟨e2,y⟩:=y
 subst e2 y
 exact⟨F',Ext.refl s2,rfl⟩
section
variable {X : Cx} {Xw : Nat → Hp → Prop} {tg l : Expr} {δ : DE} {pos : Pos}
theorem jg (h:PD X Xw l δ):PDI X Xw tg l (mX δ):=PI.weak (nT h) fun σ H R ⟨F,ρ,s,w⟩=>by
 refine⟨F,ρ,s,WP.mono (WPI.bind w) fun v H1 ⟨F1,d,e1,q1,w1⟩=>?_⟩
 cases d with
 |lst ds=>
  obtain⟨a,vs,h1,h2,h3,h4⟩:=q1
  exact⟨a,h1,⟨vs,Same.seq e1.fh (SqL.of h2)⟩,w1 _ _ _ (Ext.refl e1.fh) (lQ (SqL.of h2) h3)⟩
 |_=>exact w1.elim
theorem h9 (h:PD X Xw l δ):PDI X Xw tg l (gO δ):=PI.weak (pH h) fun σ H R ⟨F,ρ,s,w⟩=>by
 refine⟨F,ρ,s,WP.mono (WPI.bind w) fun v H1 ⟨F1,d,e1,q1,w1⟩=>?_⟩
 cases d with
 |tup ds=>
  obtain⟨a,vs,h1,h2,h3,h4⟩:=q1
  exact⟨a,h1,⟨vs,Same.tup e1.fh (SqT.of h2)⟩,w1 _ _ _ (Ext.refl e1.fh) (m_ (SqT.of h2) h3)⟩
 |_=>exact w1.elim
def gE:List D→M (List D)
 |[.int j]=>if -4096≤j∧j≤4096 then M.ret (dI 0 j.toNat) else M.stuck
 |_=>M.stuck
theorem DenL.one {K:PySem.W.Frag}{F:Hp}{d:D}{vs:List V}(h:DenL K F [d] vs):∃v,vs=[v]∧Den K F d v:=by
 obtain⟨v,r,h1,h2,h3⟩:=h
 cases (show r=[] from h3)
 exact⟨v,h1,h2⟩
theorem DenL.two {K:PySem.W.Frag}{F:Hp}{d d':D}{vs:List V}(h:DenL K F [d,d'] vs):∃v v',vs=[v,v']∧Den K F d v∧Den K F d' v':=by
 obtain⟨v,r,h1,h2,h3⟩:=h
 obtain⟨v',h4,h5⟩:=h3.one
 subst h4
 exact⟨v,v',h1,h2,h5⟩
theorem fF {a:Expr}{δs:DA}{p:Pos}(hg:Gl X "range") (hm:X.mg "range"=none) (ha:PDA X Xw [a] δs) (hs:starEach [a] X.env=[(false,eval a X.env)]:=by rfl):PDI X Xw tg (.Call (.Name "range" p) [a] [] pos) (fun ρ=>δs ρ>>=gE):=
 PI.weak (lj hg hm ha hs) fun σ H R ⟨F,ρ,s,w⟩=>by
  refine⟨F,ρ,s,WPL.mono (WPI.bindL w) fun vs H1 ⟨F1,ds,e1,q1,w1⟩=>?_⟩
  unfold gE at w1
  split at w1
  ·rename_i j
   obtain⟨v,h1,h2⟩:=q1.one
   cases (show v=_ from h2)
   split at w1
   ·exact⟨j,h1,by omega,by omega,w1 _ _ _ (Ext.refl e1.fh) (kX 0 _)⟩
   ·exact w1.elim
  ·exact w1.elim
end
def b6 (tg N:List Str):List Str:=N.map fun y=>if tg.contains y then y++(" ":Str) else y
def c6 (X:Cx) (scope:Scope) (tn:List Str) (pins:List (Addr×Obj)) (cl:List (Str×Addr)) (C:Addr) (fp:List Addr) (s₂:Shared) (H:Hp):Cx:=
 {X with N:=tn++b6 tn X.N,s₀:=s₂,H₀:=H,env:=compEnvC scope cl C X.env,outer:=X.stack,ex:=fp,fn:=fun _=>false,pn:=X.pn++pins,xe:=fun _ _=>False}
structure CompSc (X:Cx) (scope:Scope) (tn:List Str):Prop where
 kind:scope.kind= .function
 nocell:∀y∈scope.names,y.2≠ .cell
 names:∀y∈scope.names,y.2= .local→scope.names.lookup y.1=some .local
 frees:∀y∈scope.names,y.2= .free→X.env.kindOf y.1=some .cell∨X.env.kindOf y.1=some .free
 vis:∀p∈(b6 tn X.N).zip X.N,scope.names.lookup p.1=none∨(p.1=p.2∧scope.names.lookup p.1=some .free)
theorem c_ {env:Env}:∀(names:List (Str×NameKind)) (acc:List (Str×Addr)),(∀y∈names,y.2= .free→∃c,env.cells.lookup y.1=some c)→
 (∀x c,acc.lookup x=some c→env.cells.lookup x=some c)→
 ∃cl,(forIn names acc (fun (x:Str×NameKind) (r:List (Str×Addr))=>do
   let __x:=x
   if (__x.2==NameKind.free)=true then do let c←cellOf env __x.1;pure (ForInStep.yield ((__x.1,c)::r)) else pure (ForInStep.yield r)):Sem (List (Str×Addr)))=pure cl∧
  (∀x c,cl.lookup x=some c→env.cells.lookup x=some c)∧(∀x c,acc.lookup x=some c→∃c',cl.lookup x=some c')∧(∀x,names.lookup x=some .free→∃c,cl.lookup x=some c)
 |[],acc,_,h2=>⟨acc,rfl,h2,fun x c e=>⟨c,e⟩,fun x e=>by simp at e⟩
 |(n,k)::r,acc,h1,h2=>by
  by_cases hk:k= .free
  ·subst hk
   obtain⟨c,hc⟩:=h1 (n, .free) List.mem_cons_self rfl
   obtain⟨cl,e,a1,a2,a3⟩:=c_ r ((n,c)::acc) (fun y hy=>h1 y (List.mem_cons_of_mem _ hy)) (fun x c' q=>by
    rw[List.lookup_cons] at q
    split at q
    ·rename_i hx
     cases q
     rw[show x=n from by simpa using hx];exact hc
    ·exact h2 x c' q)
   refine⟨cl,?_,a1,fun x c' q=>?_,fun x q=>?_⟩
   ·rw[List.forIn_cons]
    have:cellOf env n=pure c:=by unfold cellOf;rw[hc]
    simp only[beq_self_eq_true,if_true,this,pure_bind]
    exact e
   ·by_cases hx:x=n
    ·subst hx
     exact a2 x c (by simp[List.lookup_cons])
    ·exact a2 x c' (by rw[List.lookup_cons,show (x==n)=false from by simpa using hx];exact q)
   ·rw[List.lookup_cons] at q
    split at q
    ·rename_i hx
     exact a2 x c (by rw[List.lookup_cons,hx])
    ·exact a3 x q
  ·obtain⟨cl,e,a1,a2,a3⟩:=c_ r acc (fun y hy=>h1 y (List.mem_cons_of_mem _ hy)) h2
   refine⟨cl,?_,a1,a2,fun x q=>?_⟩
   ·rw[List.forIn_cons]
    have:((k==NameKind.free)=true)=False:=by simpa using hk
    simp only[this,if_false,pure_bind]
    exact e
   ·rw[List.lookup_cons] at q
    split at q
    ·cases q;exact absurd rfl hk
    ·exact a3 x q
theorem fg {scope:Scope}{env:Env}(h:∀y∈scope.names,y.2= .free→∃c,env.cells.lookup y.1=some c):
 ∃cl,closureFor scope env=pure cl∧(∀x c,cl.lookup x=some c→env.cells.lookup x=some c)∧(∀x,scope.names.lookup x=some .free→∃c,cl.lookup x=some c):=by
 obtain⟨cl,e,a1,_,a3⟩:=c_ (env:=env) scope.names [] h (fun x c q=>by simp at q)
 refine⟨cl,?_,a1,a3⟩
 unfold closureFor
 show (forIn scope.names [] _>>=fun r=>pure r)=_
 rw[bind_pure]
 exact e
end L3
namespace L3
open PySem PySem.Spec L2
open PyProof.Rows hiding St
def noex {α:Type}:M α→M α
 |some (.ok a)=>some (.ok a)
 |_=>none
def bw (f:D→M (Option D)):List D→M (List D)
 |[]=>M.ret []
 |d::ds=>f d>>=fun o=>bw f ds>>=fun r=>M.ret (match o with | some y=>y::r | none=>r)
def tgM (n:Nat):D→M (List D):=fun d=>match n,d with
 |0,d=>M.ret [d]
 |n, .tup ds=>if ds.length=n then M.ret ds else M.stuck
 |_,_=>M.stuck
def cL (n:Nat) (δt:DT) (δe:DE) (ρ:Rho):D→M (Option D):=fun d=>
 tgM n d>>=fun ts=>δt (ts.map (fun t=>some (Sl.fz t))++ρ)>>=fun b=>if b then δe (ts.map (fun t=>some (Sl.fz t))++ρ)>>=fun y=>M.ret (some y) else M.ret none
def bf (n:Nat) (δi:DA) (δt:DT) (δe:DE):DE:=fun ρ=>δi ρ>>=fun ds=>noex (bw (cL n δt δe ρ) ds)>>=bz
def bN:DT:=fun _=>M.ret true
theorem da (f:D→M (Option D)) (d:D) (ds:List D):bw f (d::ds)=(f d>>=fun o=>bw f ds>>=fun r=>M.ret (match o with | some y=>y::r | none=>r)):=rfl
theorem jD {f:D→M (Option D)}{ds:List D}{i:Nat}{d:D}{ys R:List D}(hd:ds[i]? =some d)
 (h:bw f ds=(bw f (ds.drop i)>>=fun r=>M.ret (ys++r))) (hR:bw f ds=M.ret R):
 ∃o,f d=M.ret o∧bw f ds=(bw f (ds.drop (i+1))>>=fun r=>M.ret ((match o with | some y=>ys++[y] | none=>ys)++r)):=by
 have e:ds.drop i=d::ds.drop (i+1):=by
  obtain⟨hi,e⟩:=List.getElem?_eq_some_iff.mp hd
  rw[List.drop_eq_getElem_cons hi,e]
 rw[e,da] at h
 have h':=h.symm.trans hR
 obtain⟨r,h1,h2⟩:=cy h'
 obtain⟨o,h3,h4⟩:=cy h1
 refine⟨o,h3,?_⟩
 obtain⟨r',h5,h6⟩:=cy h4
 rw[h5,hR]
 rw[←h2,←cZ h6]
 show M.ret _=M.ret _
 cases o with
 |none=>rfl
 |some y=>simp
theorem jo {P:Program}{w:World}{H:Hp}{h1 h2:Heap}{a:Addr}(x:HOk P w H h1) (s:Heap.SameBut a h1 h2) (n:H a=none):HOk P w H h2:=fun b o e=>by
 refine(x b o e).stay (fun c v hc q=>(s.2 c ?_).trans q) (fun _ q=>q) fun _ _ q=>q
 rintro rfl
 rcases hc with rfl | hc
 ·rw[n] at e;cases e
 ·rw[n] at hc;cases hc
theorem kL {prog:Program}{w:World}{A:Around}{R:Result→Shared→Prop}{s:Shared}{elt target iter:Expr}{ifs:List Expr}{scope:Scope}{pos:Pos}{it acc:Value}{env:Env}(I:Nat→Shared→Prop)
 (turn:∀n s,I n s→wpAny (model prog w) A (pyNext it) (fun r s₁=>match r with
  |none=>R (.ok .next) s₁
  |some v=>wpAny (model prog w) A (letOwnedTupleGo target it v) (fun _ s₁'=>wpAny (model prog w) A (assign target env v) (fun _ s₂=>
    wpAny (model prog w) A (forIn ifs true fun c r=>if r=true then do let ok←isTrue c env (eval c env);pure (ForInStep.yield ok) else pure (ForInStep.yield r)) (fun ok s₃=>
     if ok=true then wpAny (model prog w) A (eval elt env) (fun x s₄=>
      wpAny (model prog w) A (call (.builtin "list.append") [acc,x]) (fun _ s₅=>∃m,m<n∧I m s₅) (notedBy (model prog w) A env fun e s'=>R (.error e) s') s₄) (notedBy (model prog w) A env fun e s'=>R (.error e) s') s₃
     else∃m,m<n∧I m s₃) (notedBy (model prog w) A env fun e s'=>R (.error e) s') s₂) (notedBy (model prog w) A env fun e s'=>R (.error e) s') s₁') (notedBy (model prog w) A env fun e s'=>R (.error e) s') s₁) (notedBy (model prog w) A env fun e s'=>R (.error e) s') s)
 (n:Nat) (h:I n s):
 codeAny (model prog w) A (.compLoop (.ListComp elt [⟨target,iter,ifs,0⟩] scope pos) 0 it acc env) R s:=by
 refine codeAny_loop rfl I (fun n s hI=>?_) n h
 show wpAny _ A ((compTurn (.ListComp elt [⟨target,iter,ifs,0⟩] scope pos) 0 it acc env).onRaise (fun x=>do noteFrame x env;theTreesLotGoes x)) _ _ s
 refine wpAny_noted ?_
 rw[compTurn_list]
 refine wpAny_bind (wpAny_standAt (wpAny_bind (wpAny_mono (turn n s hI) (fun r s₁ h₁=>?_) fun _ _ h'=>h')))
 cases r with
 |none=>exact wpAny_pure h₁
 |some v=>
  refine wpAny_bind (wpAny_mono h₁ (fun _ s₁' h₁=>?_) fun _ _ h'=>h')
  refine wpAny_bind (wpAny_mono h₁ (fun _ s₂ h₂=>wpAny_bind (wpAny_mono h₂ (fun ok s₃ h₃=>?_) fun _ _ h'=>h')) fun _ _ h'=>h')
  cases ok with
  |false=>exact wpAny_pure ⟨rfl,h₃⟩
  |true=>
   exact wpAny_bind (wpAny_bind (wpAny_mono h₃ (fun x s₄ h₄=>wpAny_bind (wpAny_mono h₄ (fun _ s₅ h₅=>wpAny_pure (wpAny_pure ⟨rfl,h₅⟩)) fun _ _ h'=>h')) fun _ _ h'=>h'))
def lC (X:Cx) (tg:Expr) (n:Nat) (σ:St):Prop:=∀(pins:List (Addr×Obj)) (s:Shared) (σ':St) (F H:Hp) (d:D) (ts:List D) (v:V) (u:Value),Inv X pins σ' H s→Same F H→σ'.drop (max n 1)=σ→RelV v u→Den X.K F d v→tgM n d=M.ret ts→
 wpAny (model X.prog X.w) X.A (assign tg X.env u) (fun _ s'=>∃vs,Inv X pins (vs.map some++σ) H s'∧DenL X.K F ts vs) X.xe s
def e9 (X:Cx) (ifs:List Expr) (δt:DT):Prop:=∀(pins:List (Addr×Obj)) (s:Shared) (σ:St) (H:Hp) (Q:Bool→Hp→Prop),Inv X pins σ H s→tDT X.K (fun _ _=>False) δt σ H Q→
 wpAny (model X.prog X.w) X.A (forIn ifs true fun c r=>if r=true then do let ok←isTrue c X.env (eval c X.env);pure (ForInStep.yield ok) else pure (ForInStep.yield r)) (TP X pins σ Q) X.xe s
theorem cT {X:Cx}:e9 X [] bN:=fun pins s σ H Q I ⟨F,ρ,S,w⟩=>wpAny_tests_nil ⟨H,I,w H F (Ext.refl S.fh)⟩
theorem StE.cons {K:PySem.W.Frag}{F H:Hp}{σ:St}{ρ:Rho}{ts:List D}{vs:List V}(s:StE K F H σ ρ) (h:DenL K F ts vs):StE K F H (vs.map some++σ) (ts.map (fun t=>some (Sl.fz t))++ρ):=by
 refine⟨s.fh,fun i sl e=>?_⟩
 have hl:=h.len
 by_cases hi:i<ts.length
 ·rw[List.getElem?_append_left (by simpa using hi),List.getElem?_map] at e
  cases q:ts[i]? with
  |none=>rw[q] at e;cases e
  |some t=>
   rw[q] at e
   cases e
   obtain⟨v,e1,e2⟩:=h.get q
   exact⟨v,by rw[List.getElem?_append_left (by simp;omega),List.getElem?_map,e1];rfl,e2⟩
 ·rw[List.getElem?_append_right (by simpa using hi)] at e
  obtain⟨v,e1,e2⟩:=s.den _ _ e
  refine⟨v,?_,e2⟩
  rw[List.getElem?_append_right (by simp;omega)]
  simpa[hl] using e1
theorem WPB.take {Xw:Nat→Hp→Prop}{F H:Hp}{b:Bool}:WPB Xw F H (M.ret b) fun b' H'=>b'=b∧∃F',Ext F H F' H':=fun H' F' e=>⟨rfl,F',e⟩
theorem WP.take {K:PySem.W.Frag}{Xw:Nat→Hp→Prop}{F H:Hp}{d:D}:WP K Xw F H (M.ret d) fun v H'=>∃F',Ext F H F' H'∧Den K F' d v:=fun v H' F' e q=>⟨F',e,q⟩
def d8 (env:Env) (p:Str×NameKind):Str×NameKind:=if (p.2== .free&&env.scope.kind== .function&&env.kindOf p.1==some .cell) then(p.1, .cell) else(p.1,p.2)
theorem b_ (scope:Scope) (env:Env):(relabel scope env).names=scope.names.map (d8 env):=rfl
theorem mD (env:Env) (p:Str×NameKind):(d8 env p).1=p.1:=by unfold d8;split<;>rfl
theorem cC (env:Env) (x:Str):∀ns:List (Str×NameKind),(ns.map (d8 env)).lookup x=(ns.lookup x).map fun k=>(d8 env (x,k)).2
 |[]=>rfl
 |(m,k)::r=>by
  rw[List.map_cons,List.lookup_cons,List.lookup_cons]
  have e:d8 env (m,k)=(m,(d8 env (m,k)).2):=Prod.ext (mD env (m,k)) rfl
  rw[e]
  dsimp only
  by_cases hx:(x==m)=true
  ·have hm:x=m:=by simpa using hx
   subst hm
   rw[hx]
   rfl
  ·have hx:(x==m)=false:=by simpa using hx
   rw[hx]
   exact cC env x r
theorem ig {scope:Scope}{env:Env}{x:Str}(h:scope.names.lookup x=none):(relabel scope env).names.lookup x=none:=by
 rw[b_,cC,h];rfl
theorem ie {scope:Scope}{env:Env}{x:Str}(hc:∀y∈scope.names,y.2≠ .cell) (h:(relabel scope env).names.lookup x=some .cell∨(relabel scope env).names.lookup x=some .free):scope.names.lookup x=some .free:=by
 rw[b_,cC] at h
 cases q:scope.names.lookup x with
 |none=>rw[q] at h;rcases h with h | h<;>cases h
 |some k=>
  rw[q] at h
  have hk:k≠ .cell:=hc _ (PySem.mem_of_lookup q)
  have h:(d8 env (x,k)).2= .cell∨(d8 env (x,k)).2= .free:=by simpa using h
  by_cases hf:k= .free
  ·rw[hf]
  ·have:(d8 env (x,k)).2=k:=by
    unfold d8
    rw[if_neg]
    simp[hf]
   rw[this] at h
   rcases h with h | h
   ·exact absurd h hk
   ·exact absurd h hf
theorem d9 {scope:Scope}{env:Env}{x:Str}(h:scope.names.lookup x=some .free):¬(relabel scope env).names.lookup x=some .local:=by
 rw[b_,cC,h]
 intro z
 have z:(d8 env (x, .free)).2= .local:=by simpa using z
 unfold d8 at z
 split at z<;>cases z
structure BlockEnd (X:Cx) (pins:List (Addr×Obj)) (C:Addr) (H':Hp) (s1:Shared):Prop where
 ns:∃m,s1.heap.Ns C m
 free:H' C=none
 nl:C≠X.env.locals
 nw:X.s₀.heap.objs.size≤C
 nc:∀x c,X.env.cells.lookup x=some c→c≠C
 np:∀p∈X.pn++pins,p.1≠C
theorem iI {X:Cx}{Xw:Nat→Hp→Prop}{elt iter tg:Expr}{ifs:List Expr}{scope:Scope}{pos:Pos}{tn:List Str}{n:Nat}{δi:DA}{δt:DT}{δe:DE}{cl:List (Str×Addr)}{pins:List (Addr×Obj)}{s:Shared}{σ:St}{H F:Hp}{ρ:Rho}{Q:VK}{RR:Value→Addr→Result→Shared→Prop}
 (sc:CompSc X scope tn) (hn:tn.length=max n 1) (hc:X.calm=true) (hi:PDI X Xw tg iter δi)
 (hg:∀pins cl C fp s₂ H σ,lC (c6 X scope tn pins cl C fp s₂ H) tg n σ)
 (ht:∀pins cl C fp s₂ H,e9 (c6 X scope tn pins cl C fp s₂ H) ifs δt)
 (he:∀pins cl C fp s₂ H,PD (c6 X scope tn pins cl C fp s₂ H) (fun _ _=>False) elt δe)
 (I:Inv X pins σ H s) (S:StE X.K F H σ ρ) (w:WP X.K Xw F H (bf n δi δt δe ρ) Q)
 (cl1:∀x c,cl.lookup x=some c→X.env.cells.lookup x=some c) (cl2:∀x,scope.names.lookup x=some .free→∃c,cl.lookup x=some c)
 (hRR:∀(s1:Shared) (C D:Addr) (H':Hp),Inv X pins σ H' s1→Q (.ref D) H'→BlockEnd X pins C H' s1→RR (.ref D) C (.ok .next) s1):
 wpAny (model X.prog X.w) X.A (eval iter X.env) (fun x s₁=>wpAny (model X.prog X.w) X.A (pyIter x) (fun it s₂=>wpAny (model X.prog X.w) X.A (newList []) (fun acc s₃=>
  wpAny (model X.prog X.w) X.A (newFunctionEnv scope X.env.globals cl [] X.env.qual none .none (some X.env)) (fun cenv s₄=>
   codeAny (model X.prog X.w) X.A (.compStart (.ListComp elt [⟨tg,iter,ifs,0⟩] scope pos) 0 it acc {cenv with scope:=relabel scope X.env}) (RR acc cenv.locals) s₄) X.xe s₃) X.xe s₂) X.xe s₁) X.xe s:=by
 refine thn (hi pins s σ H (fun J H2=>∃F2 ds,Ext F H F2 H2∧ItD X.K F2 J ds∧WP X.K Xw F2 H2 (noex (bw (cL n δt δe ρ) ds)>>=bz) Q) I ⟨F,ρ,S,?_⟩) fun xv s₁ h₁=>thn h₁ fun it s₂ h₂=>?_
 ·unfold bf at w
  rcases(δi ρ).cs with hq | ⟨m,hq⟩ | ⟨ds,hq⟩
  ·rw[hq] at w;exact w.elim
  ·rw[hq] at w⊢;exact w
  ·rw[hq] at w⊢;exact fun J H' F' e q=>⟨F',ds,e,q,WP.ext e w⟩
 obtain⟨ia,fp,tnn,J,H2,rfl,I2,T,st2,f2,F2,ds,e2,it2,w2⟩:=h₂
 obtain⟨R,hR,hRl,w2⟩:∃R,bw (cL n δt δe ρ) ds=M.ret R∧R.length≤lim∧WP X.K Xw F2 H2 (M.ret (.lst R)) Q:=by
  rcases(bw (cL n δt δe ρ) ds).cs with hq | ⟨m,hq⟩ | ⟨R,hq⟩
  ·rw[hq] at w2;exact w2.elim
  ·rw[hq] at w2;exact w2.elim
  ·rw[hq] at w2
   obtain⟨h1,h2⟩:=jQ (X:=X) (f:=D.lst) (show WP X.K Xw F2 H2 (bz R) Q from w2)
   exact⟨R,hq,h1,h2⟩
 refine wpAny_newObj_type (wpAny_newFunctionEnv sc.nocell (by intro y hy;simp at hy) (fun h₁ hns₁ hsb₁=>?_) sc.kind)
 dsimp only at hns₁ hsb₁⊢
 generalize hHL:s₂.heap.push {cls:= .type "list",dict:=none,data:= .seq ([]:List Value).toArray}=HL at hns₁ hsb₁⊢
 have hC:HL.objs.size=s₂.heap.objs.size+1:=by rw[←hHL,Heap.size_push]
 have hDC:s₂.heap.objs.size<HL.objs.size:=by rw[hC];exact Nat.lt_succ_self _
 have old:∀b o,s₂.heap.get? b=some o→h₁.get? b=some o:=fun b o e=>hsb₁.extBut b o (Nat.ne_of_lt (Nat.lt_trans (Heap.lt_size e) hDC)) (Heap.get?_push_of_some _ (hHL▸Heap.get?_push_of_some _ e))
 have hacc:h₁.get? s₂.heap.objs.size=some {cls:= .type "list",data:= .seq ([]:List Value).toArray}:=hsb₁.extBut _ _ (Nat.ne_of_lt hDC) (Heap.get?_push_of_some _ (hHL▸Heap.get?_push_size _ rfl))
 have nD:H2 s₂.heap.objs.size=none:=I2.hok.fresh (Nat.le_refl _)
 have nC:H2 HL.objs.size=none:=I2.hok.fresh (Nat.le_of_lt hDC)
 have gC:s₂.heap.get? HL.objs.size=none:=Heap.get?_none_of_le (Nat.le_of_lt hDC)
 have fl:∀b∈fp,b<s₂.heap.objs.size:=fun b hb=>by
  obtain⟨o,e,_⟩:=T.obj 0 _ st2 b hb
  exact Heap.lt_size e
 generalize hX':c6 X scope tn pins cl HL.objs.size fp s₂ H2=X'
 have ok':X'.Ok:=by
  subst hX'
  refine⟨I2.ok.mod,sc.kind,I2.ok.glob,I2.ok.blt,Nat.le_of_lt hDC,fun x y c h1 h2=>I2.ok.inj x y c (cl1 _ _ h1) (cl1 _ _ h2),fun x hx=>?_,fun _ _ h=>(by cases h),I2.ok.hd,I2.ok.frames, .inl rfl,
   fun b hb=>⟨Nat.ne_of_lt (Nat.lt_trans (fl b hb) hDC),fun x c h=>(f2 b hb).2.2.2.2.1 x c (cl1 _ _ h)⟩,I2.bs,Nat.le_trans I2.ok.bsz I2.sz,fun b o e hb=>?_,fun b hb z=>?_,I2.stack,I2.stkFree⟩
  ·have hx:(relabel scope X.env).names.lookup x=some .cell∨(relabel scope X.env).names.lookup x=some .free:=hx
   exact cl2 x (ie sc.nocell hx)
  ·rcases(f2 b hb).2.2.2.1 with z | z
   ·exact I2.ok.noex b o e z
   ·exact absurd (Nat.lt_of_lt_of_le (Heap.lt_size (I2.ok.bs b o e).1) z) (Nat.lt_irrefl _)
  ·rcases List.mem_cons.mp (I2.stkSub b z) with q | q
   ·exact(f2 b hb).2.1 q
   ·exact(f2 b hb).2.2.1 q
 have nD':∀b o,H2 b=some o→b≠s₂.heap.objs.size:=fun b o e=>aM e nD
 have fpok:∀{H':Hp},(∀b∈fp,H' b=none)→∀b∈fp,iG X' [] H' b:=fun hnn b hb=>by
  subst hX'
  refine⟨hnn b hb,Nat.ne_of_lt (Nat.lt_trans (fl b hb) hDC),fun z=>ok'.exfs b hb z, .inl hb,fun x c h=>(f2 b hb).2.2.2.2.1 x c (cl1 _ _ h),fun p hp=>?_⟩
  rw[List.append_nil] at hp
  exact(f2 b hb).2.2.2.2.2 p hp
 have I0:Inv X' [] (List.replicate (max n 1) none++σ) (upd H2 s₂.heap.objs.size (.lst [])) {s₂ with heap:=h₁,toks:=s₂.toks+([]:List (Str×Value)).length}:=by
  subst hX'
  have hokL:HOk X.prog X.w (upd H2 s₂.heap.objs.size (.lst [])) h₁:=I2.hok.laid old (Nat.le_refl _) ⟨Nat.zero_le _,[],_, .nil,hacc⟩
  refine⟨ok',rfl,I2.bare,Un.laid old (Nat.le_refl _) nD,⟨_,hns₁,fun i x v h1 h2 h3=>?_⟩,fun x c h=>?_,?_,fun x c h=>?_,fun p hp=>?_,hokL,?_⟩
  ·by_cases hi:i<max n 1
   ·rw[List.getElem?_append_left (by simpa using hi),List.getElem?_replicate,if_pos hi] at h2
    cases h2
   ·have hi':tn.length≤i:=by omega
    have h1:(tn++b6 tn X.N)[i]? =some x:=h1
    rw[List.getElem?_append_right hi'] at h1
    rw[List.getElem?_append_right (by simpa using hi),List.length_replicate,←hn] at h2
    have hN:∃y,X.N[i - tn.length]? =some y∧(x,y)∈(b6 tn X.N).zip X.N:=by
     have hlt:=(List.getElem?_eq_some_iff.mp h1).1
     have hlt':i - tn.length<X.N.length:=by simpa[b6] using hlt
     refine⟨X.N[i - tn.length],List.getElem?_eq_getElem hlt',?_⟩
     refine List.mem_iff_getElem?.mpr ⟨i - tn.length,?_⟩
     rw[List.getElem?_zip_eq_some]
     exact⟨h1,List.getElem?_eq_getElem hlt'⟩
    obtain⟨y,hy,hm⟩:=hN
    have hV:(relabel scope X.env).names.lookup x=some .local∨(relabel scope X.env).names.lookup x=some .cell∨(relabel scope X.env).names.lookup x=some .free:=h3
    rcases sc.vis _ hm with hno | ⟨hxy,hfr⟩
    ·have hno:scope.names.lookup x=none:=hno
     have:(relabel scope X.env).names.lookup x=none:=ig hno
     rw[this] at hV
     rcases hV with z | z | z<;>cases z
    ·have hxy:x=y:=hxy
     subst hxy
     have hfr:scope.names.lookup x=some .free:=hfr
     have hk:=sc.frees (x, .free) (PySem.mem_of_lookup hfr) rfl
     obtain⟨m,hm2,hl2⟩:=I2.loc
     obtain⟨u,ru,lk⟩:=hl2 _ x v hy h2 (by rcases hk with z | z;exact .inr (.inl z);exact .inr (.inr z))
     refine⟨u,ru, .inr ⟨?_,?_⟩⟩
     ·rcases hV with z | z | z
      ·exact absurd z (d9 hfr)
      ·exact .inl z
      ·exact .inr z
     ·rcases lk with⟨z,_⟩ | ⟨_,c,hc1,hc2⟩
      ·rcases hk with q | q
       ·rw[show X.env.kindOf x=some .local from z] at q;cases q
       ·rw[show X.env.kindOf x=some .local from z] at q;cases q
      ·obtain⟨c',hc'⟩:=cl2 x hfr
       have:=cl1 _ _ hc'
       rw[hc1] at this
       cases this
       obtain⟨o,ho,hd⟩:=hc2
       exact⟨c,hc',o,old _ _ ho,hd⟩
  ·obtain⟨v,o,ho,hd⟩:=I2.cell x c (cl1 _ _ h)
   exact⟨v,o,old _ _ ho,hd⟩
  ·show upd H2 s₂.heap.objs.size (.lst []) HL.objs.size=none
   rw[aj (Nat.ne_of_gt hDC)]
   exact nC
  ·have hcl:=cl1 _ _ h
   obtain⟨v,q⟩:=I2.cell x c hcl
   rw[aj (Nat.ne_of_lt q.lt)]
   exact I2.freeC x c hcl
  ·rw[List.append_nil] at hp
   obtain⟨e,nn,ne,nf,d⟩:=I2.pin p hp
   have hlt:=Heap.lt_size e
   refine⟨old _ _ e,by rw[aj (Nat.ne_of_lt hlt)];exact nn,Nat.ne_of_lt (Nat.lt_trans hlt hDC),fun z=>?_,d⟩
   rcases List.mem_cons.mp (I2.stkSub p.1 z) with q | q
   ·exact ne q
   ·exact nf q
  ·show (List.replicate (max n 1) none++σ).length=(tn++b6 tn X.N).length
   rw[List.length_append,List.length_append,List.length_replicate,hn,show (b6 tn X.N).length=X.N.length from by simp[b6],I2.len]
 have loop:∀s₃:Shared,s₃={s₂ with heap:=h₁,toks:=s₂.toks+([]:List (Str×Value)).length}→
  codeAny (model X.prog X.w) X.A (.compLoop (.ListComp elt [⟨tg,iter,ifs,0⟩] scope pos) 0 (.ref ia) (.ref s₂.heap.objs.size) (compEnvC scope cl HL.objs.size X.env))
   (RR (.ref s₂.heap.objs.size) HL.objs.size) s₃:=by
  intro s₃ hs₃
  have env':X'.env=compEnvC scope cl HL.objs.size X.env:=by subst hX';rfl
  have hA:X'.A=X.A:=by subst hX';rfl
  have hP:X'.prog=X.prog:=by subst hX';rfl
  have hw:X'.w=X.w:=by subst hX';rfl
  have hK:X'.K=X.K:=by subst hX';rfl
  have hxe:X'.xe=fun _ _=>False:=by subst hX';rfl
  have hcalm:X'.calm=true:=by subst hX';exact hc
  have hfs:X'.fs=frs X.stack:=by subst hX';rfl
  have hex:X'.ex=fp:=by subst hX';rfl
  have hH₀:X'.H₀=H2:=by subst hX';rfl
  have hs₀:X'.s₀=s₂:=by subst hX';rfl
  have pass:∀{α:Type}{t:Sem α}{P:α→Shared→Prop}{E':Value→Shared→Prop}{s:Shared},wpAny (model X'.prog X'.w) X'.A t P X'.xe s→wpAny (model X.prog X.w) X.A t P E' s:=fun {α t P E' s} h=>by
   rw[hP,hw,hA,hxe] at h
   exact wpAny_mono h (fun _ _ q=>q) fun _ _ q=>q.elim
  refine kL (fun m s'=>∃(i:Nat) (F' H':Hp) (vs:List V) (ys:List D) (σt:St),m=ds.length - i∧i≤ds.length∧σt.length=max n 1∧Inv X' [] (σt++σ) H' s'∧tnn i s'.heap∧(∀b∈fp,H' b=none)∧Ext F2 H2 F' H'∧
   H' s₂.heap.objs.size=some (.lst vs)∧F' s₂.heap.objs.size=none∧DenL X.K F' ys vs∧bw (cL n δt δe ρ) ds=(bw (cL n δt δe ρ) (ds.drop i)>>=fun r=>M.ret (ys++r))) ?_ ds.length ?_
  ·rintro m s' ⟨i,F',H',vs,ys,σt,rfl,hile,hσt,I',st',fr',ex',hD,fD,hys,heq⟩
   by_cases hlt:i<ds.length
   ·
    obtain⟨d,hd⟩:∃d,ds[i]? =some d:=⟨_,List.getElem?_eq_getElem hlt⟩
    obtain⟨hgo,hyld⟩:=(it2 F' H' i ex'.ff ex'.fh).1 d hd
    obtain⟨o,ho,heq'⟩:=jD hd heq hR
    have hys_le:ys.length≤lim:=by
     rw[heq] at hR
     obtain⟨r,_,hr⟩:=cy hR
     rw[←cZ hr,List.length_append] at hRl
     omega
    obtain⟨ts,hts,ho⟩:=cy ho
    refine pass ?_
    rw[hP,hw]
    refine thn (T.item X' hP hw hK hcalm i [] s' (σt++σ) H' X'.xe I' (fpok fr') st' hgo) ?_
    rintro r s1 ⟨u,rfl,h1⟩
    refine pass ?_
    rw[hP,hw]
    refine thn h1 ?_
    rintro _ s2 ⟨x,H3,I3,rx,y3,st3,fr3⟩
    obtain⟨F3,ex3,q3⟩:=hyld x H3 y3
    have hD3:H3 s₂.heap.objs.size=some (.lst vs):=ex3.hh _ _ hD
    have fD3:F3 s₂.heap.objs.size=none:=by rw[ex3.old hD (fun _ z=>nomatch z)];exact fD
    have I3':=I3.pinned (fpok fr3) (T.obj _ _ st3)
    have keepT:∀{σ7:St}{H7:Hp}{s7:Shared},Inv X' ([]++fG fp s2.heap) σ7 H7 s7→tnn (i+1) s7.heap∧∀b∈fp,H7 b=none:=fun {σ7 H7 s7} I7=>
     ⟨T.keep _ _ _ st3 fun b hb o e=>(I7.pin (b,o) (List.mem_append_right _ (List.mem_append_right _ (cE hb e)))).1,fun b hb=>by
      obtain⟨o,e,_⟩:=T.obj _ _ st3 b hb
      exact(I7.pin (b,o) (List.mem_append_right _ (List.mem_append_right _ (cE hb e)))).2.1⟩
    have hgX:lC X' tg n σ:=by subst hX';exact hg _ _ _ _ _ _ _
    have htX:e9 X' ifs δt:=by subst hX';exact ht _ _ _ _ _ _
    have heX:PD X' (fun _ _=>False) elt δe:=by subst hX';exact he _ _ _ _ _ _
    refine pass ?_
    rw[←env']
    refine thn (hgX _ s2 (σt++σ) F3 H3 d ts x u I3' ex3.fh (by rw[←hσt];simp) rx (by rw[hK];exact q3) hts) ?_
    rintro _ s4 ⟨vt,I4,dt⟩
    rw[hK] at dt
    have S4:StE X.K F3 H3 (vt.map some++σ) (ts.map (fun t=>some (Sl.fz t))++ρ):=StE.cons ((S.ext e2).ext (ex'.trans ex3)) dt
    obtain⟨b,hb,ho⟩:=cy ho
    refine pass ?_
    try rw[←env']
    refine thn (htX _ s4 _ H3 (fun b' H5=>b'=b∧∃F5,Ext F3 H3 F5 H5) I4 ⟨F3,_,by rw[hK];exact S4,by rw[hb];exact WPB.take⟩) ?_
    rintro b' s5 ⟨H5,I5,rfl,F5,ex5⟩
    have hD5:H5 s₂.heap.objs.size=some (.lst vs):=ex5.hh _ _ hD3
    have fD5:F5 s₂.heap.objs.size=none:=by rw[ex5.old hD3 (fun _ z=>nomatch z)];exact fD3
    cases b' with
    |false=>
     rw[if_neg Bool.false_ne_true] at ho⊢
     obtain rfl:=cZ ho
     refine⟨ds.length - (i+1),by omega,i+1,F5,H5,vs,ys,vt.map some,rfl,hlt,?_,I5.unpinned,(keepT I5).1,(keepT I5).2,ex'.trans (ex3.trans ex5),hD5,fD5,DenL.mono (ex3.trans ex5).ff hys,heq'⟩
     have h1:=I5.len
     have h2:=I3.len
     rw[List.length_append] at h1 h2
     omega
    |true=>
     rw[if_pos rfl] at ho⊢
     obtain⟨yv,hy,ho⟩:=cy ho
     obtain rfl:=cZ ho
     refine pass ?_
     try rw[←env']
     refine thn (heX _ s5 _ H5 (fun v H6=>∃F6,Ext F5 H5 F6 H6∧Den X.K F6 yv v) I5 ⟨F5,_,by rw[hK];exact S4.ext ex5,by rw[hy,hK];exact WP.take⟩) ?_
     rintro xv s6 ⟨v,H6,I6,rv,F6,ex6,qv⟩
     have hD6:H6 s₂.heap.objs.size=some (.lst vs):=ex6.hh _ _ hD5
     have fD6:F6 s₂.heap.objs.size=none:=by rw[ex6.old hD5 (fun _ z=>nomatch z)];exact fD5
     have hvl:vs.length<sizeLine:=by
      have:=hys.len
      have:=a7
      omega
     refine pass ?_
     refine thn (gy _ s6 _ H6 (.ref s₂.heap.objs.size) [v] (.ref s₂.heap.objs.size) [xv] (fun _ H7=>H7=upd H6 s₂.heap.objs.size (.lst (vs++[v]))) I6 rfl (.cons rv .nil) ⟨_,vs,v,rfl,rfl,hD6,hvl,rfl⟩) ?_
     rintro _ s7 ⟨_,H7,I7,_,rfl⟩
     have ex7:Ext F2 H2 F6 (upd H6 s₂.heap.objs.size (.lst (vs++[v]))):=by
      have e:=ex'.trans (ex3.trans (ex5.trans ex6))
      refine⟨fun b u q=>?_,e.ff,fun b u q=>?_,e.new⟩
      ·rw[aj (nD' b u q)];exact e.hh b u q
      ·rw[aj (fun z=>by rw[z,fD6] at q;cases q)];exact e.fh b u q
     refine⟨ds.length - (i+1),by omega,i+1,F6,_,vs++[v],ys++[yv],vt.map some,rfl,hlt,?_,I7.unpinned,(keepT I7).1,(keepT I7).2,ex7,au,fD6,
      DenL.append (DenL.mono (ex3.trans (ex5.trans ex6)).ff hys) (.cons qv .nil),heq'⟩
     have h1:=I5.len
     have h2:=I3.len
     rw[List.length_append] at h1 h2
     omega
   ·
    have hi:i=ds.length:=by omega
    subst hi
    rw[List.drop_length] at heq
    have hRy:R=ys:=by
     rw[heq] at hR
     have hR:M.ret (ys++[])=M.ret R:=hR
     rw[←cZ hR,List.append_nil]
    subst hRy
    refine pass ?_
    rw[hP,hw]
    refine thn (T.done X' hP hw hK hcalm ds.length [] s' (σt++σ) H' X'.xe I' (fpok fr') st' ((it2 F' H' ds.length ex'.ff ex'.fh).2 (Nat.le_refl _))) ?_
    rintro r s1 ⟨rfl,I1⟩
    obtain⟨m,hm,_⟩:=I1.loc
    rw[env'] at hm
    have hCn:H' HL.objs.size=none:=by
     have:=I1.free
     rw[env'] at this
     exact this
    have u:=I1.base
    rw[hfs,hex,hH₀,hs₀] at u
    have hos:s1.os=s₂.os:=by have:=I1.os;rw[hs₀] at this;exact this
    have hhok:=I1.hok
    rw[hP,hw] at hhok
    refine hRR s1 HL.objs.size s₂.heap.objs.size H' (I2.call' (s':=s1) (ch:=fp) hos u hhok I1.bare (fun b hb=>⟨(f2 b hb).2.2.2.1,(f2 b hb).2.1,(f2 b hb).2.2.2.2.1,(f2 b hb).2.2.2.2.2⟩)) ?_
     ⟨⟨m,hm⟩,hCn,Nat.ne_of_gt (Nat.lt_trans I2.lt hDC),Nat.le_trans I2.sz (Nat.le_of_lt hDC),fun x c q z=>?_,fun p hp z=>?_⟩
    rotate_left
    ·obtain⟨v,q'⟩:=I2.cell x c q
     exact absurd (Nat.lt_trans q'.lt hDC) (by rw[z];exact Nat.lt_irrefl _)
    ·exact absurd (Nat.lt_trans (Heap.lt_size (I2.pin p hp).1) hDC) (by rw[z];exact Nat.lt_irrefl _)
    refine WP.fin w2 (F':=upd F' s₂.heap.objs.size (.lst vs)) ⟨ex'.hh,fun b u q=>?_,fun b u q=>?_,fun a ha=>?_⟩ ⟨_,vs,rfl,au,DenL.mono (fun b u q=>?_) hys,hRl⟩
    ·rw[aj (fun z=>by have:=ex'.ff b u q;rw[z,fD] at this;cases this)];exact ex'.ff b u q
    ·by_cases z:b=s₂.heap.objs.size
     ·rw[z,au] at q;rw[z,hD];exact q
     ·rw[aj z] at q;exact ex'.fh b u q
    ·rcases ex'.new a ha with q | q
     ·exact .inl (by rw[aj (fun z=>ha (by rw[z];exact nD))];exact q)
     ·exact .inr q
    ·rw[aj (fun z=>by rw[z,fD] at q;cases q)];exact q
  ·rw[hs₃]
   refine⟨0,F2,_,[],[],List.replicate (max n 1) none,by simp,Nat.zero_le _,by simp,I0,T.keep _ _ _ st2 (fun b hb o e=>old b o e),fun b hb=>?_,⟨fun b u q=>?_,Same.refl _,fun b u q=>?_,fun _ _=> .inl rfl⟩,au,Same.free e2.fh nD,rfl,?_⟩
   ·rw[aj (Nat.ne_of_lt (fl b hb))];exact(f2 b hb).1
   ·rw[aj (nD' b u q)];exact q
   ·rw[aj (nD' b u (e2.fh b u q))];exact e2.fh b u q
   ·rw[List.drop_zero]
    rcases(bw (cL n δt δe ρ) ds).cs with hq | ⟨m,hq⟩ | ⟨R,hq⟩<;>rw[hq]<;>rfl
 exact codeAny_compStart_list (loop _ rfl) (T.self X.A 0 _ _ _ (T.keep _ _ _ st2 (fun b hb o e=>old b o e)) (loop _ rfl))
theorem Inv.block {X:Cx}{pins:List (Addr×Obj)}{σ:St}{H':Hp}{s1:Shared}{C:Addr}{h':Heap}(I:Inv X pins σ H' s1) (b:BlockEnd X pins C H' s1) (hsb:Heap.SameBut C s1.heap h'):Inv X pins σ H' {s1 with heap:=h'}:=
 I.turned (t':=s1.toks) (fun a o ha e=>(hsb.2 a ha).trans e) b.free b.nl (.inr b.nw) b.nc b.np
section
variable {X : Cx} {Xw : Nat → Hp → Prop} {elt iter tg : Expr} {ifs : List Expr} {scope : Scope} {pos : Pos} {tn : List Str} {n : Nat} {δi : DA} {δt : DT} {δe : DE}
theorem eX (sc:CompSc X scope tn) (hn:tn.length=max n 1) (hc:X.calm=true) (hi:PDI X Xw tg iter δi)
 (hg:∀pins cl C fp s₂ H σ,lC (c6 X scope tn pins cl C fp s₂ H) tg n σ)
 (ht:∀pins cl C fp s₂ H,e9 (c6 X scope tn pins cl C fp s₂ H) ifs δt)
 (he:∀pins cl C fp s₂ H,PD (c6 X scope tn pins cl C fp s₂ H) (fun _ _=>False) elt δe)
 (hs:∀x,foldedSetIterable iter X.env x=pure x:=by intro _;rfl):
 PD X Xw (.ListComp elt [⟨tg,iter,ifs,0⟩] scope pos) (bf n δi δt δe):=by
 intro pins s σ H Q I ⟨F,ρ,S,w⟩
 obtain⟨cl,hclos,cl1,cl2⟩:=fg (scope:=scope) (env:=X.env) fun y hy hf=>I.ok.has y.1 (sc.frees y hy hf)
 rw[eval_ListComp]
 refine wpAny_comprehension_free (use:=none) rfl hs hclos sc.kind sc.names (iI (RR:=fun acc C=>compPost (model X.prog X.w) X.A X.xe none (EP X pins σ Q) acc C) sc hn hc hi hg ht he I S w cl1 cl2 fun s1 C D H' I1 q b=>?_)
 obtain⟨m,hm⟩:=b.ns
 exact⟨m,hm,fun h' hsb=>⟨.ref D,H',Inv.block I1 b hsb,rfl,q⟩⟩
end
end L3
namespace L3
open PySem PySem.Spec L2
open PyProof.Rows hiding St
inductive Out where
 |nx (ρ:Rho) | rt (d:D)
abbrev DS:=Rho→M Out
structure StOk (K:PySem.W.Frag) (F₀ H₀ F H:Hp) (σ:St) (ρ:Rho):Prop where
 ext:Ext F₀ H₀ F H
 st:StE K F H σ ρ
 len:ρ.length=σ.length
 own:∀(i:Nat) (c:C) (a:Addr),ρ[i]? =some (some (.ow c))→σ[i]? =some (some (.ref a))→H₀ a=none
 sep:∀(i j:Nat) (c c':C) (a:Addr),ρ[i]? =some (some (.ow c))→ρ[j]? =some (some (.ow c'))→σ[i]? =some (some (.ref a))→σ[j]? =some (some (.ref a))→i=j
def WPS (K:PySem.W.Frag) (Xw:Nat→Hp→Prop) (F₀ H₀:Hp) (m:M Out) (Dn:Ends):Prop:=
 match m with
 |none=>False
 |some (.ok (.nx ρ))=>∀σ F H,StOk K F₀ H₀ F H σ ρ→Dn.nx σ H
 |some (.ok (.rt d))=>∀v F H,Ext F₀ H₀ F H→Den K F d v→Dn.rt v H
 |some (.ex n)=>∀F H,Ext F₀ H₀ F H→Xw n H
def tS (K:PySem.W.Frag) (Xw:Nat→Hp→Prop) (F₀ H₀:Hp) (τ:DS):TS:=fun Dn σ H=>∃F ρ,StOk K F₀ H₀ F H σ ρ∧WPS K Xw F₀ H₀ (τ ρ) Dn
def PSD (X:Cx) (Xw:Nat→Hp→Prop) (st:Stmt) (τ:DS):Prop:=∀F₀ H₀,PS X st (tS X.K Xw F₀ H₀ τ)
def PSDs (X:Cx) (Xw:Nat→Hp→Prop) (st:List Stmt) (τ:DS):Prop:=∀F₀ H₀,PSs X st (tS X.K Xw F₀ H₀ τ)
theorem PS.weak {X:Cx}{st:Stmt}{t t':TS}(h:PS X st t) (k:∀D σ H,t' D σ H→t D σ H):PS X st t':=fun pins s σ H D I w=>h pins s σ H D I (k D σ H w)
theorem PSs.weak {X:Cx}{st:List Stmt}{t t':TS}(h:PSs X st t) (k:∀D σ H,t' D σ H→t D σ H):PSs X st t':=fun pins s σ H D I w=>h pins s σ H D I (k D σ H w)
section
variable {K : PySem.W.Frag} {Xw : Nat → Hp → Prop} {F₀ H₀ F H F' H' : Hp} {σ : St} {ρ : Rho}
theorem StOk.ext' (s:StOk K F₀ H₀ F H σ ρ) (e:Ext F H F' H'):StOk K F₀ H₀ F' H' σ ρ:=⟨s.ext.trans e,s.st.ext e,s.len,s.own,s.sep⟩
theorem StOk.set (s:StOk K F₀ H₀ F H σ ρ) {i:Nat}{d:D}{v:V}(h:Den K F d v):StOk K F₀ H₀ F H (σ.set i (some v)) (ρ.set i (some (.fz d))):=by
 have hl:=s.len
 have get:∀(j:Nat) (sl:Sl),(ρ.set i (some (.fz d)))[j]? =some (some sl)→(j=i∧i<ρ.length∧sl= .fz d)∨(j≠i∧ρ[j]? =some (some sl)):=fun j sl e=>by
  by_cases hj:j=i
  ·subst hj
   have hi:j<ρ.length:=by
    have:=(List.getElem?_eq_some_iff.mp e).1
    simpa using this
   rw[List.getElem?_set_self hi] at e
   cases e
   exact .inl ⟨rfl,hi,rfl⟩
  ·rw[List.getElem?_set_ne (Ne.symm hj)] at e
   exact .inr ⟨hj,e⟩
 refine⟨s.ext,⟨s.st.fh,fun j sl e=>?_⟩,by simp[hl],fun j c a e e'=>?_,fun j k c c' a e1 e2 e3 e4=>?_⟩
 ·rcases get j sl e with⟨rfl,hi,rfl⟩ | ⟨hj,e⟩
  ·exact⟨v,by rw[List.getElem?_set_self (by omega)],h⟩
  ·obtain⟨u,h1,h2⟩:=s.st.den j sl e
   exact⟨u,by rw[List.getElem?_set_ne (Ne.symm hj)];exact h1,h2⟩
 ·rcases get j _ e with⟨_,_,z⟩ | ⟨hj,e⟩
  ·cases z
  ·rw[List.getElem?_set_ne (Ne.symm hj)] at e'
   exact s.own j c a e e'
 ·rcases get j _ e1 with⟨_,_,z⟩ | ⟨hj,e1⟩
  ·cases z
  ·rcases get k _ e2 with⟨_,_,z⟩ | ⟨hk,e2⟩
   ·cases z
   ·rw[List.getElem?_set_ne (Ne.symm hj)] at e3
    rw[List.getElem?_set_ne (Ne.symm hk)] at e4
    exact s.sep j k c c' a e1 e2 e3 e4
theorem StOk.chg (s:StOk K F₀ H₀ F H σ ρ) {i:Nat}{a:Addr}{c c₀:C}{o₀:HO}(hi:ρ[i]? =some (some (.ow c))) (ha:σ[i]? =some (some (.ref a))) (h:DenC K F c₀ o₀):
 StOk K F₀ H₀ F (upd H a o₀) σ (ρ.set i (some (.ow c₀))):=by
 have hle:=s.len
 have h0:=s.own i c a hi ha
 obtain⟨u,q1,a',o,q2,q3,q4,q5⟩:=s.st.den i _ hi
 rw[ha] at q1
 cases q1
 cases q2
 have hil:i<ρ.length:=(List.getElem?_eq_some_iff.mp hi).1
 have get:∀(j:Nat) (sl:Sl),(ρ.set i (some (.ow c₀)))[j]? =some (some sl)→(j=i∧sl= .ow c₀)∨(j≠i∧ρ[j]? =some (some sl)):=fun j sl e=>by
  by_cases hj:j=i
  ·subst hj
   rw[List.getElem?_set_self hil] at e
   cases e
   exact .inl ⟨rfl,rfl⟩
  ·rw[List.getElem?_set_ne (Ne.symm hj)] at e
   exact .inr ⟨hj,e⟩
 have fh:Same F (upd H a o₀):=fun b o e=>by
  rw[aj (fun z=>by rw[z,q4] at e;cases e)];exact s.st.fh b o e
 refine⟨⟨fun b o e=>?_,s.ext.ff,fh,s.ext.new⟩,⟨fh,fun j sl e=>?_⟩,by simp[hle],fun j c' b e e'=>?_,fun j k c1 c2 b e1 e2 e3 e4=>?_⟩
 ·rw[aj (fun z=>by rw[z,h0] at e;cases e)];exact s.ext.hh b o e
 ·rcases get j sl e with⟨rfl,rfl⟩ | ⟨hj,e⟩
  ·exact⟨.ref a,ha,a,_,rfl,au,q4,h⟩
  ·obtain⟨u,h1,h2⟩:=s.st.den j sl e
   refine⟨u,h1,?_⟩
   cases sl with
   |fz d=>exact h2
   |ow c'=>
    obtain⟨b,o',r1,r2,r3,r4⟩:=h2
    refine⟨b,o',r1,?_,r3,r4⟩
    rw[aj (fun z=>hj (s.sep j i c' c a e hi (by rw[h1,r1,z]) ha))];exact r2
 ·rcases get j _ e with⟨rfl,_⟩ | ⟨hj,e⟩
  ·rw[ha] at e';cases e';exact h0
  ·exact s.own j c' b e e'
 ·have k1:∃c,ρ[j]? =some (some (.ow c)):=by
   rcases get j _ e1 with⟨rfl,_⟩ | ⟨_,e⟩
   ·exact⟨c,hi⟩
   ·exact⟨_,e⟩
  have k2:∃c,ρ[k]? =some (some (.ow c)):=by
   rcases get k _ e2 with⟨rfl,_⟩ | ⟨_,e⟩
   ·exact⟨c,hi⟩
   ·exact⟨_,e⟩
  obtain⟨_,k1⟩:=k1
  obtain⟨_,k2⟩:=k2
  exact s.sep j k _ _ b k1 k2 e3 e4
def frz (i:Nat) (ρ:Rho):Rho:=match ρ[i]? with
 |some (some (.ow c))=>ρ.set i (some (.fz c.d))
 |_=>ρ
theorem StOk.frz (s:StOk K F₀ H₀ F H σ ρ) (i:Nat) (obj:Addr→Obj):(∃a o,H a=some o∧DenC K F (ρ[i]?.elim (.lst []) fun x=>x.elim (.lst []) fun y=>match y with | .ow c=>c | _=> .lst []) o∧σ[i]? =some (some (.ref a))∧StOk K F₀ H₀ (upd F a (gT (obj a) o)) (upd H a (gT (obj a) o)) σ (frz i ρ))∨frz i ρ=ρ:=by
 unfold L3.frz
 split
 ·rename_i c₀ hi
  have hle:=s.len
  obtain⟨u,ha,a,o,rfl,q3,q4,hds⟩:=s.st.den i _ hi
  refine .inl ⟨a,o,q3,by rw[hi];exact hds,ha,?_⟩
  have h0:=s.own i _ a hi ha
  have hil:i<ρ.length:=(List.getElem?_eq_some_iff.mp hi).1
  have ff:Same F (upd F a (gT (obj a) o)):=fun b o e=>by rw[aj (fun z=>by rw[z,q4] at e;cases e)];exact e
  have fh:Same (upd F a (gT (obj a) o)) (upd H a (gT (obj a) o)):=fun b o e=>by
   by_cases z:b=a
   ·rw[z,au] at e⊢;exact e
   ·rw[aj z] at e⊢;exact s.st.fh b o e
  have get:∀(j:Nat) (sl:Sl),(ρ.set i (some (.fz c₀.d)))[j]? =some (some sl)→(j=i∧sl= .fz c₀.d)∨(j≠i∧ρ[j]? =some (some sl)):=fun j sl e=>by
   by_cases hj:j=i
   ·subst hj
    rw[List.getElem?_set_self hil] at e
    cases e
    exact .inl ⟨rfl,rfl⟩
   ·rw[List.getElem?_set_ne (Ne.symm hj)] at e
    exact .inr ⟨hj,e⟩
  refine⟨⟨fun b u q=>?_,s.ext.ff.trans ff,fh,fun b hb=>?_⟩,⟨fh,fun j sl e=>?_⟩,by simp[hle],fun j c' b e e'=>?_,fun j k c1 c2 b e1 e2 e3 e4=>?_⟩
  ·rw[aj (fun z=>by rw[z,h0] at q;cases q)];exact s.ext.hh b u q
  ·rcases s.ext.new b hb with q | q
   ·exact .inl (by rw[aj (fun z=>hb (by rw[z];exact h0))];exact q)
   ·exact .inr q
  ·rcases get j sl e with⟨rfl,rfl⟩ | ⟨hj,e⟩
   ·exact⟨.ref a,ha,DenC.den hds ff au⟩
   ·obtain⟨u,h1,h2⟩:=s.st.den j sl e
    refine⟨u,h1,?_⟩
    cases sl with
    |fz d=>exact Den.mono ff h2
    |ow c'=>
     obtain⟨b,o',r1,r2,r3,r4⟩:=h2
     have hne:b≠a:=fun z=>hj (s.sep j i c' _ a e hi (by rw[h1,r1,z]) ha)
     exact⟨b,o',r1,by rw[aj hne];exact r2,by rw[aj hne];exact r3,DenC.mono ff r4⟩
  ·rcases get j _ e with⟨_,z⟩ | ⟨hj,e⟩
   ·cases z
   ·exact s.own j c' b e e'
  ·rcases get j _ e1 with⟨_,z⟩ | ⟨_,e1⟩
   ·cases z
   ·rcases get k _ e2 with⟨_,z⟩ | ⟨_,e2⟩
    ·cases z
    ·exact s.sep j k _ _ b e1 e2 e3 e4
 ·exact .inr rfl
end
def join (F H:Hp):Hp:=fun a=>match F a with
 |some o=>some o
 |none=>H a
theorem StOk.rebase {K:PySem.W.Frag}{F₀ H₀ F H:Hp}{σ:St}{ρ:Rho}(s:StOk K F₀ H₀ F H σ ρ):StOk K F (join F H₀) F H σ ρ∧∀F' H',Ext F (join F H₀) F' H'→Ext F₀ H₀ F' H':=by
 have hj:Same (join F H₀) H:=fun b o e=>by
  unfold join at e
  cases q:F b with
  |some u=>rw[q] at e;cases e;exact s.st.fh b _ q
  |none=>rw[q] at e;exact s.ext.hh b o e
 have h0:Same H₀ (join F H₀):=fun b o e=>by
  unfold join
  cases q:F b with
  |some u=>
   have h1:=s.st.fh b u q
   rw[s.ext.hh b o e] at h1
   exact h1.symm
  |none=>exact e
 refine⟨⟨⟨hj,Same.refl _,s.st.fh,fun _ _=> .inl rfl⟩,s.st,s.len,fun i c a e e'=>?_,s.sep⟩,fun F' H' x=>⟨h0.trans x.hh,s.ext.ff.trans x.ff,x.fh,fun a ha=>?_⟩⟩
 ·have h1:=s.own i c a e e'
  obtain⟨v,q1,a',o,q2,q3,q4,_⟩:=s.st.den i _ e
  rw[e'] at q1
  cases q1
  cases q2
  unfold join
  rw[q4]
  exact h1
 ·have:join F H₀ a≠none:=by
   cases q:H₀ a with
   |none=>exact absurd q ha
   |some o=>rw[h0 a o q];exact fun z=>nomatch z
  rcases s.ext.new a ha with p | p
  ·rcases x.new a this with q | ⟨ts,q⟩
   ·exact .inl (q.trans p)
   ·cases z:H₀ a with
    |none=>exact absurd z ha
    |some o=>
     rw[h0 a o z] at q
     exact .inr ⟨ts,q⟩
  ·exact .inr p
theorem StOk.unbase {K:PySem.W.Frag}{F₀ H₀ F U F' H':Hp}{σ:St}{ρ:Rho}(k:∀F' H',Ext F U F' H'→Ext F₀ H₀ F' H') (s:StOk K F U F' H' σ ρ) (h:Same H₀ U):StOk K F₀ H₀ F' H' σ ρ:=
 ⟨k _ _ s.ext,s.st,s.len,fun i c a e e'=>Same.free h (s.own i c a e e'),s.sep⟩
theorem kY {K:PySem.W.Frag}{F₀ H₀ F H:Hp}{σ:St}{ρ:Rho}(s:StOk K F₀ H₀ F H σ ρ):Same H₀ (join F H₀):=fun b o e=>by
 unfold join
 cases q:F b with
 |some u=>
  have h1:=s.st.fh b u q
  rw[s.ext.hh b o e] at h1
  exact h1.symm
 |none=>exact e
theorem Inv.refrz {X:Cx}{pins:List (Addr×Obj)}{σ:St}{H:Hp}{s:Shared}{a:Addr}{o o':HO}(I:Inv X pins σ H s) (e:H a=some o)
 (ho:o'=o∨∃u,o'= .frz ((s.heap.get? a).getD {cls:= .none,data:= .fields #[]}) u∧((∃k,o= .dT k∧u= .dT k)∨∃k,o= .dK k∧u= .dK k)):Inv X pins σ (upd H a o') s:=by
 rcases ho with rfl | ⟨u,rfl,hu⟩
 ·have:upd H a o'=H:=by
   funext b
   by_cases z:b=a
   ·rw[z,au,e]
   ·rw[aj z]
  rw[this];exact I
 have hou:o=u:=by rcases hu with⟨k,h1,h2⟩ | ⟨k,h1,h2⟩<;>rw[h1,h2]
 subst hou
 have nt:∀ts,o≠ .tup ts:=fun ts z=>by rcases hu with⟨k,h1,_⟩ | ⟨k,h1,_⟩<;>rw[h1] at z<;>cases z
 have nf:∀ob v,o≠ .frz ob v:=fun ob v z=>by rcases hu with⟨k,h1,_⟩ | ⟨k,h1,_⟩<;>rw[h1] at z<;>cases z
 have nb:∀p,o≠ .tbl p:=fun p z=>by rcases hu with⟨k,h1,_⟩ | ⟨k,h1,_⟩<;>rw[h1] at z<;>cases z
 have no:∀p,o≠ .own p:=fun p z=>by rcases hu with⟨k,h1,_⟩ | ⟨k,h1,_⟩<;>rw[h1] at z<;>cases z
 have ne:∀b,H b=none→b≠a:=fun b hb z=>by rw[z,e] at hb;cases hb
 have hk:=I.hok a o e
 have hlt:=hk.lt
 obtain⟨ob,hob⟩:∃ob,s.heap.get? a=some ob:=by
  rcases hu with⟨k,h1,_⟩ | ⟨k,h1,_⟩
  ·subst h1;obtain⟨_,_,_,_,ob,_,_,q,_⟩:=hk;exact⟨ob,q⟩
  ·subst h1;obtain⟨_,_,_,_,ob,_,_,q,_⟩:=hk;exact⟨ob,q⟩
 rw[hob]
 refine⟨I.ok,I.os,I.bare,⟨I.base.keep,I.base.slot,fun b q h1 h2 h3=>?_,I.base.there,fun b xs q=>?_,fun b q1 v q=>?_,fun b ps q=>?_⟩,I.loc,I.cell,?_,fun x c q=>?_,fun p hp=>?_,fun b v q=>?_,I.len⟩
 ·have:=I.base.free b q h1 h2 h3
  rw[aj (ne b this)];exact this
 ·have:=I.base.tups b xs q
  rw[aj (fun z=>by rw[z,e] at this;exact nt xs (Option.some.inj this))];exact this
 ·have:=I.base.frzs b q1 v q
  rw[aj (fun z=>by rw[z,e] at this;exact nf _ _ (Option.some.inj this))];exact this
 ·obtain⟨m,this⟩:=I.base.tbls b ps q
  exact⟨m,by rw[aj (fun z=>by rw[z,e] at this;exact nb _ (Option.some.inj this))];exact this⟩
 ·rw[aj (ne _ I.free)];exact I.free
 ·rw[aj (ne _ (I.freeC x c q))];exact I.freeC x c q
 ·obtain⟨h1,h2,h3⟩:=I.pin p hp
  exact⟨h1,by rw[aj (ne _ h2)];exact h2,h3⟩
 ·have st:∀{c:Addr}{v:HO},ObjOk X.prog X.w H s.heap c v→ObjOk X.prog X.w (upd H a (.frz ob o)) s.heap c v:=fun {c v} k=>k.stay (fun _ _ _ q=>q)
   (fun c' q=>by rw[aj (fun z=>by rw[z,e] at q;exact no _ (Option.some.inj q))];exact q) fun c' xs q=>by rw[aj (fun z=>by rw[z,e] at q;exact nt _ (Option.some.inj q))];exact q
  by_cases z:b=a
  ·subst z
   rw[show (some ob).getD _=ob from rfl,au] at q
   cases q
   exact⟨hob,st hk⟩
  ·rw[aj z] at q
   exact st (I.hok b v q)
def aL (a b:DS):DS:=fun ρ=>a ρ>>=fun o=>match o with | .nx ρ'=>b ρ' | .rt d=>M.ret (.rt d)
def dN:DS:=fun ρ=>M.ret (.nx ρ)
def bq (δ:DE):DS:=fun ρ=>δ ρ>>=fun d=>M.ret (.rt d)
def mH (δ:DE):DS:=fun ρ=>δ ρ>>=fun _=>M.ret (.nx ρ)
def bo (i:Nat) (δ:DE):DS:=fun ρ=>δ ρ>>=fun d=>M.ret (.nx (ρ.set i (some (.fz d))))
def sIf (c:DT) (a b:DS):DS:=fun ρ=>c ρ>>=fun x=>if x then a ρ else b ρ
def sFz (i:Nat) (a:DS):DS:=fun ρ=>a (frz i ρ)
def nH (ρ:Rho) (i:Nat):Option (List D):=match ρ[i]? with
 |some (some (.ow (.lst ds)))=>some ds
 |_=>none
theorem lb {ρ:Rho}{i:Nat}{ds:List D}(h:nH ρ i=some ds):ρ[i]? =some (some (.ow (.lst ds))):=by
 unfold nH at h
 split at h
 ·rename_i ds' e
  cases h
  exact e
 ·cases h
def oi (i:Nat) (δ:DE):DS:=fun ρ=>match nH ρ i with
 |some ds=>δ ρ>>=fun d=>if ds.length<lim then M.ret (.nx (ρ.set i (some (.ow (.lst (ds++[d])))))) else M.stuck
 |none=>M.stuck
def forL (put:D→Rho→Option Rho) (body:DS):List D→DS
 |[],ρ=>M.ret (.nx ρ)
 |d::ds,ρ=>(match put d ρ with | none=>M.stuck | some ρ1=>body ρ1>>=fun o=>match o with | .nx ρ2=>forL put body ds ρ2 | .rt v=>M.ret (.rt v))
def putN (i:Nat):D→Rho→Option Rho:=fun d ρ=>some (ρ.set i (some (.fz d)))
def jm (put:D→Rho→Option Rho) (δi:DA) (body:DS):DS:=fun ρ=>δi ρ>>=fun ds=>forL put body ds ρ
section
variable {X : Cx} {Xw : Nat → Hp → Prop} {F₀ H₀ : Hp} {st : Stmt} {rest : List Stmt} {τ τ' : DS} {e : Expr} {δ : DE} {pos : Pos}
theorem bR:PSDs X Xw [] dN:=fun F₀ H₀=>PSs.weak nZ fun D σ H ⟨F,ρ,s,w⟩=>w σ F H s
theorem ay (h1:PSD X Xw st τ) (h2:PSDs X Xw rest τ'):PSDs X Xw (st::rest) (aL τ τ'):=fun F₀ H₀=>PSs.weak (mr (h1 F₀ H₀) (h2 F₀ H₀)) fun D σ H ⟨F,ρ,s,w⟩=>by
 refine⟨F,ρ,s,?_⟩
 unfold aL at w
 match τ ρ,w with
 |none,w=>exact w
 |some (.ok (.nx ρ')),w=>exact fun σ' F' H' s'=>⟨F',ρ',s',w⟩
 |some (.ok (.rt d)),w=>exact w
 |some (.ex n),w=>exact w
theorem ax (h1:PSD X Xw st τ):PSDs X Xw [st] τ:=fun F₀ H₀=>n0 (h1 F₀ H₀)
theorem ic {i:Nat}(h:PSD X Xw st τ):PSD X Xw st (sFz i τ):=fun F₀ H₀ pins sh σ H D I ⟨F,ρ,s,w⟩=>by
 rcases s.frz i (fun a=>(sh.heap.get? a).getD {cls:= .none,data:= .fields #[]}) with⟨a,o,ha,hc,hσ,s'⟩ | e
 ·refine h F₀ H₀ pins sh σ _ D (L3.Inv.refrz I ha ?_) ⟨_,_,s',w⟩
  generalize (ρ[i]?.elim (C.lst []) fun x=>x.elim (.lst []) fun y=>match y with | .ow c=>c | _=> .lst [])=c at hc
  cases c with
  |lst ds=>obtain⟨vs,rfl,_⟩:=hc;exact .inl rfl
  |dct ks ds=>obtain⟨vs,rfl,_⟩:=hc;exact .inr ⟨_,rfl, .inl ⟨_,rfl,rfl⟩⟩
  |dci ks ds=>obtain⟨vs,rfl,_⟩:=hc;exact .inr ⟨_,rfl, .inr ⟨_,rfl,rfl⟩⟩
 ·exact h F₀ H₀ pins sh σ H D I ⟨F,ρ,s,by unfold sFz at w;rw[e] at w;exact w⟩
theorem aJ (h:PD X Xw e δ):PSD X Xw (.Return (some e) pos) (bq δ):=fun F₀ H₀=>PS.weak (pJ h) fun D σ H ⟨F,ρ,s,w⟩=>by
 refine⟨F,ρ,s.st,?_⟩
 unfold bq at w
 match δ ρ,w with
 |none,w=>exact w
 |some (.ok d),w=>exact fun v H' F' e' q=>w v F' H' (s.ext.trans e') q
 |some (.ex n),w=>exact fun F' H' e'=>w F' H' (s.ext.trans e')
theorem nX (h:PD X Xw e δ) (hs:swapsWith e none pos.line X.env=pure false:=by rfl):PSD X Xw (.Expr e pos) (mH δ):=fun F₀ H₀=>PS.weak (kr h hs) fun D σ H ⟨F,ρ,s,w⟩=>by
 refine⟨F,ρ,s.st,?_⟩
 unfold mH at w
 match δ ρ,w with
 |none,w=>exact w
 |some (.ok d),w=>exact fun v H' F' e' q=>w σ F' H' (s.ext' e')
 |some (.ex n),w=>exact fun F' H' e'=>w F' H' (s.ext.trans e')
theorem aK {i:Nat}{x:Str}{pos':Pos}(hN:X.N.Nodup) (hi:X.N[i]? =some x) (hx:Loc X.env.scope x) (he:PD X Xw e δ) (hf:X.fn x=true∨X.env.scope.names.lookup x=some .local:=by first | exact .inl rfl | exact .inr rfl)
 (hs:swapsWithSole [.Name x pos'] e pos.line X.env=pure false:=by rfl):
 PSD X Xw (.Assign [.Name x pos'] e pos) (bo i δ):=fun F₀ H₀=>PS.weak (mq he (eY hN hi hx hf) hs) fun D σ H ⟨F,ρ,s,w⟩=>by
 refine⟨F,ρ,s.st,?_⟩
 unfold bo at w
 match δ ρ,w with
 |none,w=>exact w
 |some (.ok d),w=>exact fun v H' F' e' q=>w _ F' H' ((s.ext' e').set q)
 |some (.ex n),w=>exact fun F' H' e'=>w F' H' (s.ext.trans e')
theorem jj {elt iter tg:Expr}{ifs:List Expr}{scope:Scope}{cpos:Pos}{tn:List Str}{n:Nat}{δi:DA}{δt:DT}{δe:DE}{i:Nat}{x:Str}{pos':Pos}(hN:X.N.Nodup) (hi':X.N[i]? =some x) (hx:Loc X.env.scope x)
 (sc:CompSc X scope tn) (hn:tn.length=max n 1) (hc:X.calm=true) (hi:PDI X Xw tg iter δi)
 (hg:∀pins cl C fp s₂ H σ,lC (c6 X scope tn pins cl C fp s₂ H) tg n σ)
 (ht:∀pins cl C fp s₂ H,e9 (c6 X scope tn pins cl C fp s₂ H) ifs δt)
 (he:∀pins cl C fp s₂ H,PD (c6 X scope tn pins cl C fp s₂ H) (fun _ _=>False) elt δe)
 (hf:X.fn x=true∨X.env.scope.names.lookup x=some .local:=by first | exact .inl rfl | exact .inr rfl)
 (hsw:swapsWith (.ListComp elt [⟨tg,iter,ifs,0⟩] scope cpos) (some (.Name x pos')) pos.line X.env=pure true:=by rfl)
 (hs:∀x,foldedSetIterable iter X.env x=pure x:=by intro _;rfl):
 PSD X Xw (.Assign [.Name x pos'] (.ListComp elt [⟨tg,iter,ifs,0⟩] scope cpos) pos) (bo i (bf n δi δt δe)):=fun F₀ H₀ pins s σ H D I ⟨F,ρ,S,w⟩=>by
 obtain⟨cl,hclos,cl1,cl2⟩:=fg (scope:=scope) (env:=X.env) fun y hy hf=>I.ok.has y.1 (sc.frees y hy hf)
 have w':WP X.K Xw F H (bf n δi δt δe ρ) (fun v H'=>D.nx (σ.set i (some v)) H'):=by
  have w:WPS X.K Xw F₀ H₀ (bf n δi δt δe ρ>>=fun d=>M.ret (.nx (ρ.set i (some (.fz d))))) D:=w
  match bf n δi δt δe ρ,w with
  |none,w=>exact w
  |some (.ok d),w=>exact fun v H' F' e' q=>w _ F' H' ((S.ext' e').set q)
  |some (.ex n),w=>exact fun F' H' e'=>w F' H' (S.ext.trans e')
 rw[exec_Assign_Name_used _ _ _ _ hsw]
 refine wpAny_bind (wpAny_standAt (wpAny_bind ?_))
 show wpAny _ X.A (do let _←comprehension (.ListComp elt [⟨tg,iter,ifs,0⟩] scope cpos) scope X.env _ (newList []) false (eval iter X.env) (some (assign (.Name x pos') X.env))) _ _ s
 refine wpAny_bind (wpAny_mono (wpAny_comprehension_free (use:=some (assign (.Name x pos') X.env)) (Q:=fun _ s'=>SP X pins D .next s') rfl hs hclos sc.kind sc.names
  (iI (RR:=fun acc C=>compPost (model X.prog X.w) X.A X.xe (some (assign (.Name x pos') X.env)) (fun _ s'=>SP X pins D .next s') acc C) sc hn hc hi hg ht he I S.st w' cl1 cl2 fun s1 C D' H' I1 q b=>?_)) (fun _ s' hq=>wpAny_pure (wpAny_pure hq)) fun _ _ e=>e)
 show wpAny _ X.A (assign (.Name x pos') X.env (.ref D')) _ _ _
 refine wpAny_assign_Name (ec I1 hN hi' hx (v:= .ref D') rfl (fun s2 I2 ⟨a,sb,ha⟩=>?_) hf)
 have hCa:C≠a:=by
  rcases ha with z | z
  ·rw[z];exact b.nl
  ·exact Ne.symm (b.nc x a z)
 obtain⟨m,hm⟩:=b.ns
 have hm2:s2.heap.Ns C m:=hm.sameBut sb hCa
 refine⟨m,hm2,fun h' hsb=>⟨_,H',Inv.block I2 ⟨⟨m,hm2⟩,b.free,b.nl,b.nw,b.nc,b.np⟩ hsb,q⟩⟩
theorem cH {c:Expr}{a b:List Stmt}{tc:DT}(hc:PDT X Xw c tc) (ha:PSDs X Xw a τ) (hb:PSDs X Xw b τ'):PSD X Xw (.If c a b pos) (sIf tc τ τ'):=fun F₀ H₀=>PS.weak (qf hc (ha F₀ H₀) (hb F₀ H₀)) fun D σ H ⟨F,ρ,s,w⟩=>by
 refine⟨F,ρ,s.st,?_⟩
 unfold sIf at w
 match tc ρ,w with
 |none,w=>exact w
 |some (.ok true),w=>exact fun H' F' e'=>⟨F',ρ,s.ext' e',w⟩
 |some (.ok false),w=>exact fun H' F' e'=>⟨F',ρ,s.ext' e',w⟩
 |some (.ex n),w=>exact fun F' H' e'=>w F' H' (s.ext.trans e')
def ot (K:PySem.W.Frag) (g:TG) (put:D→Rho→Option Rho):Prop:=∀(F₀ H₀ F H:Hp) (σ:St) (ρ ρ':Rho) (d:D) (v:V) (Q:St→Hp→Prop),StOk K F₀ H₀ F H σ ρ→Den K F d v→put d ρ=some ρ'→
 (∀σ',StOk K F₀ H₀ F H σ' ρ'→Q σ' H)→g v σ H Q
theorem jk {K:PySem.W.Frag}{i:Nat}:ot K (oz i) (putN i):=fun F₀ H₀ F H σ ρ ρ' d v Q s q e k=>by
 cases e
 exact k _ (s.set q)
def tSx (K:PySem.W.Frag) (Xw:Nat→Hp→Prop) (τ:DS):TS:=fun D σ H=>∃F₀ H₀,tS K Xw F₀ H₀ τ D σ H
theorem PSDs.ex {body:List Stmt}(h:PSDs X Xw body τ):PSs X body (tSx X.K Xw τ):=fun pins s σ H D I ⟨F₀,H₀,w⟩=>h F₀ H₀ pins s σ H D I w
theorem ku {tg iter:Expr}{body:List Stmt}{δi:DA}{g:TG}{put:D→Rho→Option Rho}(hp:PassesOwn (model X.prog X.w) X.A X.env X.xe) (hc:X.calm=true) (hi:PDI X Xw tg iter δi) (hg:PG X tg g) (hput:ot X.K g put) (hb:PSDs X Xw body τ)
 (hs:∀x,foldedSetIterable iter X.env x=pure x:=by intro _;rfl):PSD X Xw (.For tg iter body [] pos) (jm put δi τ):=fun F₀ H₀=>PS.weak (pI hp hc hi hg hb.ex hs) fun D σ H ⟨F,ρ,s,w⟩=>by
 refine⟨F,ρ,s.st,?_⟩
 unfold jm at w
 match δi ρ,w with
 |none,w=>exact w
 |some (.ex n),w=>exact fun F' H' e'=>w F' H' (s.ext.trans e')
 |some (.ok ds),w=>
  have w:WPS X.K Xw F₀ H₀ (forL put τ ds ρ) D:=w
  intro J H1 F1 e1 itd
  obtain⟨s1,back⟩:=(s.ext' e1).rebase
  have hU:=kY (s.ext' e1)
  generalize join F1 H₀=U at s1 back hU
  refine⟨fun i m σ H=>m=ds.length - i∧i≤ds.length∧∃F ρ,StOk X.K F1 U F H σ ρ∧WPS X.K Xw F₀ H₀ (forL put τ (ds.drop i) ρ) D,⟨ds.length,by simp,Nat.zero_le _,F1,ρ,s1,by simpa using w⟩,?_⟩
  rintro i m σ2 H2 ⟨rfl,hile,F2,ρ2,s2,w2⟩
  by_cases hlt:i<ds.length
  ·obtain⟨d,hd⟩:∃d,ds[i]? =some d:=⟨_,List.getElem?_eq_getElem hlt⟩
   obtain⟨hgo,hyld⟩:=(itd F2 H2 i s2.ext.ff s2.st.fh).1 d hd
   have ed:ds.drop i=d::ds.drop (i+1):=by
    obtain⟨hi,e⟩:=List.getElem?_eq_some_iff.mp hd
    rw[List.drop_eq_getElem_cons hi,e]
   rw[ed] at w2
   unfold forL at w2
   refine .inr ⟨hgo,fun σ' H'=>∃F' ρ',StOk X.K F1 U F' H' σ' ρ'∧WPS X.K Xw F₀ H₀ (forL put τ (ds.drop (i+1)) ρ') D,fun σ' H' ⟨F',ρ',h2,h3⟩=>⟨ds.length - (i+1),by omega,rfl,hlt,F',ρ',h2,h3⟩,fun x H3 y3=>?_⟩
   obtain⟨F3,ex3,q3⟩:=hyld x H3 y3
   match hpd:put d ρ2,w2 with
   |none,w2=>exact w2.elim
   |some ρ3,w2=>
    refine hput F1 U F3 H3 σ2 ρ2 ρ3 d x _ (s2.ext' ex3) q3 hpd fun σ3 s3=>⟨F1,U,F3,ρ3,s3,?_⟩
    have w2:WPS X.K Xw F₀ H₀ (τ ρ3>>=fun o=>match o with | .nx ρ2=>forL put τ (ds.drop (i+1)) ρ2 | .rt v=>M.ret (.rt v)) D:=w2
    match τ ρ3,w2 with
    |none,w2=>exact w2
    |some (.ok (.nx ρ')),w2=>exact fun σ' F' H' s'=>⟨F',ρ',s',w2⟩
    |some (.ok (.rt d)),w2=>exact fun v F' H' e q=>w2 v F' H' (back _ _ e) q
    |some (.ex n),w2=>exact fun F' H' e=>w2 F' H' (back _ _ e)
  ·have hi:i=ds.length:=by omega
   subst hi
   rw[List.drop_length] at w2
   exact .inl ⟨(itd F2 H2 ds.length s2.ext.ff s2.st.fh).2 (Nat.le_refl _),w2 σ2 F2 H2 (s2.unbase back hU)⟩
end
end L3
namespace L3
open PySem PySem.Spec L2
open PyProof.Rows hiding St
def gI (f:Int→Int→D):D→D→M D
 | .int i, .int j=>M.ret (f i j)
 |_,_=>M.stuck
def gIC (c:Int→Int→Bool) (f:Int→Int→D):D→D→M D
 | .int i, .int j=>if c i j then M.ret (f i j) else M.stuck
 |_,_=>M.stuck
theorem oE {K:PySem.W.Frag}{gv:Int→Int→V}{gd:Int→Int→D}(h:∀F i j,Den K F (gd i j) (gv i j)):OpD K (rI0 gv) (gI gd):=fun Xw F H x y dx dy Q s hx hy w=>by
 unfold gI at w
 split at w
 ·rename_i i j
  exact⟨i,j,hx,hy,WP.now w s (h F i j)⟩
 ·exact w.elim
theorem jT {K:PySem.W.Frag}{gv:Int→Int→V}{gd:Int→Int→D}{c:Int→Int→Bool}{C:Int→Int→Prop}(h:∀F i j,Den K F (gd i j) (gv i j)) (hc:∀i j,c i j=true→C i j):OpD K (rI C gv) (gIC c gd):=fun Xw F H x y dx dy Q s hx hy w=>by
 unfold gIC at w
 split at w
 ·rename_i i j
  split at w
  ·rename_i hcc
   exact⟨i,j,hx,hy,hc i j hcc,WP.now w s (h F i j)⟩
  ·exact w.elim
 ·exact w.elim
def a6:=gI fun i j=> .int (i+j)
def cO:=gIC (fun i j=>decide ((-(2 ^ 64)<i∧i<2 ^ 64)∨(-(2 ^ 64)<j∧j<2 ^ 64))) fun i j=> .int (i*j)
def fR:=gIC (fun _ j=>decide (0<j∧j<1073741824)) fun i j=> .int (i / j)
def dq:=gIC (fun _ j=>decide (0<j)) fun i j=> .int (i % j)
section
variable {X : Cx} {Xw : Nat → Hp → Prop} {a b : Expr} {δa δb : DE} {pos : Pos}
theorem aX (ha:PD X Xw a δa) (hb:PD X Xw b δb):PD X Xw (.BinOp a .Add b pos) (d2 a6 δa δb):=eA o9 (oE fun _ _ _=>rfl) ha hb
theorem dg (ha:PD X Xw a δa) (hb:PD X Xw b δb):PD X Xw (.BinOp a .Mult b pos) (d2 cO δa δb):=eA pb (jT (fun _ _ _=>rfl) fun i j h=>by unfold CMul;exact of_decide_eq_true h) ha hb
theorem hJ (ha:PD X Xw a δa) (hb:PD X Xw b δb):PD X Xw (.BinOp a .FloorDiv b pos) (d2 fR δa δb):=eA ny (jT (fun _ _ _=>rfl) fun i j h=>by unfold pZ;exact of_decide_eq_true h) ha hb
theorem d7 (ha:PD X Xw a δa) (hb:PD X Xw b δb):PD X Xw (.BinOp a .Mod b pos) (d2 dq δa δb):=eA o_ (jT (fun _ _ _=>rfl) fun i j h=>of_decide_eq_true h) ha hb
def jM:D→D→M D
 | .lst ds, .int i=>match atI ds i with | some d=>M.ret d | none=>M.stuck
 |_,_=>M.stuck
def iV:D→D→M D
 | .tup ds, .int i=>match atI ds i with | some d=>M.ret d | none=>M.stuck
 |_,_=>M.stuck
def lN:D→D→M D
 | .scr ns, .int i=>match atI ns i with | some n=>M.ret (.int n) | none=>M.stuck
 |_,_=>M.stuck
def iT:D→D→M D
 | .str x, .int i=>match atI x.cps.toList i with | some c=>M.ret (.str ⟨#[c]⟩) | none=>M.stuck
 |_,_=>M.stuck
theorem DenL.atI {K:PySem.W.Frag}{F:Hp}{ds:List D}{vs:List V}(h:DenL K F ds vs) {i:Int}{d:D}(e:L2.atI ds i=some d):∃v,L2.atI vs i=some v∧Den K F d v:=by
 unfold L2.atI at e⊢
 rw[←h.len]
 cases q:ixN ds.length i with
 |none=>rw[q] at e;cases e
 |some j=>
  rw[q] at e
  exact h.get e
theorem nA {K:PySem.W.Frag}:OpD K (pN K) jM:=fun Xw F H x y dx dy Q s hx hy w=>by
 unfold jM at w
 split at w
 ·rename_i ds i
  obtain⟨a,vs,h1,h2,h3,h4⟩:=hx
  split at w
  ·rename_i d e
   obtain⟨v,e1,q⟩:=h3.atI e
   exact⟨a,vs,i,v,h1,hy,SqL.of (s _ _ h2),e1,WP.now w s q⟩
  ·exact w.elim
 ·exact w.elim
theorem nG {K:PySem.W.Frag}:OpD K (qo K) iV:=fun Xw F H x y dx dy Q s hx hy w=>by
 unfold iV at w
 split at w
 ·rename_i ds i
  obtain⟨a,vs,h1,h2,h3,h4⟩:=hx
  split at w
  ·rename_i d e
   obtain⟨v,e1,q⟩:=h3.atI e
   exact⟨a,vs,i,v,h1,hy,SqT.of (s _ _ h2),e1,WP.now w s q⟩
  ·exact w.elim
 ·exact w.elim
theorem nB {K:PySem.W.Frag}:OpD K (pN K) lN:=fun Xw F H x y dx dy Q s hx hy w=>by
 unfold lN at w
 split at w
 ·rename_i ns i
  obtain⟨a,h1,h2,h3⟩:=hx
  split at w
  ·rename_i n e
   refine⟨a,_,i, .int n,h1,hy,Same.seq s h2,?_,WP.now w s rfl⟩
   unfold L2.atI at e⊢
   rw[List.length_map]
   cases q:ixN ns.length i with
   |none=>rw[q] at e;cases e
   |some j=>
    rw[q] at e
    have e:ns[j]? =some n:=e
    show (ns.map V.int)[j]? =some (.int n)
    rw[List.getElem?_map,e];rfl
  ·exact w.elim
 ·exact w.elim
theorem nE {K:PySem.W.Frag}:OpD K qm iT:=fun Xw F H x y dx dy Q s hx hy w=>by
 unfold iT at w
 split at w
 ·rename_i z i
  obtain⟨h1,h2⟩:=hx
  split at w
  ·rename_i c e
   exact⟨z,i,c,h1,hy,by have:=a7;omega,e,WP.now w s ⟨rfl,by show 1≤lim;decide⟩⟩
  ·exact w.elim
 ·exact w.elim
theorem ma (ha:PD X Xw a δa) (hb:PD X Xw b δb) (hs:cU b:=by intro _ _;rfl):PD X Xw (.Subscript a b pos) (d2 jM δa δb):=kl kc nA ha hb hs
theorem pj (ha:PD X Xw a δa) (hb:PD X Xw b δb) (hs:cU b:=by intro _ _;rfl):PD X Xw (.Subscript a b pos) (d2 lN δa δb):=kl kc nB ha hb hs
theorem pk (ha:PD X Xw a δa) (hb:PD X Xw b δb) (hs:cU b:=by intro _ _;rfl):PD X Xw (.Subscript a b pos) (d2 iV δa δb):=kl o3 nG ha hb hs
theorem md (ha:PD X Xw a δa) (hb:PD X Xw b δb) (hs:cU b:=by intro _ _;rfl):PD X Xw (.Subscript a b pos) (d2 iT δa δb):=kl o2 nE ha hb hs
def bx:D→D→M D
 | .str x, .str y=>if x.length+y.length≤lim then M.ret (.str (x++y)) else M.stuck
 |_,_=>M.stuck
def cN:D→D→M D
 | .lst x, .lst y=>if x.length+y.length≤lim then M.ret (.lst (x++y)) else M.stuck
 |_,_=>M.stuck
theorem aO (x y:Str):(x++y).length=x.length+y.length:=by
 show (x.cps++y.cps).size=_
 simp[Str.length]
theorem cG (ha:PD X Xw a δa) (hb:PD X Xw b δb):PD X Xw (.BinOp a .Add b pos) (d2 bx δa δb):=eA jS (fun Xw F H x y dx dy Q s hx hy w=>by
 unfold bx at w
 split at w
 ·rename_i i j
  split at w
  ·rename_i hl
   exact⟨i,j,hx.1,hy.1,by have:=a7;omega,WP.now w s ⟨rfl,by rw[aO];exact hl⟩⟩
  ·exact w.elim
 ·exact w.elim) ha hb
theorem eW (ha:PD X Xw a δa) (hb:PD X Xw b δb):PD X Xw (.BinOp a .Add b pos) (d2 cN δa δb):=eA l0 (fun Xw F H x y dx dy Q s hx hy w=>by
 unfold cN at w
 split at w
 ·rename_i i j
  obtain⟨a,vs,h1,h2,h3,h4⟩:=hx
  obtain⟨a',vs',k1,k2,k3,k4⟩:=hy
  split at w
  ·rename_i hl
   have e1:=h3.len
   have e2:=k3.len
   have:=a7
   refine⟨a,a',vs,vs',h1,k1,s _ _ h2,s _ _ k2,by omega,fun p hp=>?_⟩
   exact WP.fin w (Ext.lay s hp) ⟨p,_,rfl,au,DenL.mono (Ext.lay s hp).ff (h3.append k3),by rw[List.length_append];exact hl⟩
  ·exact w.elim
 ·exact w.elim) ha hb
end
end L3
namespace L3
open PySem PySem.Spec L2 SeqAt
open PyProof.Rows hiding St
def eqL (f:D→D→Option Bool):List D→List D→Option Bool
 |[],[]=>some true
 |x::xs,y::ys=>match f x y,eqL f xs ys with
  |some b,some r=>some (b&&r)
  |_,_=>none
 |[],_::_=>some false
 |_::_,[]=>some false
def jK:D→D→Option Bool
 | .non, .non=>some true
 | .bl a, .bl b=>some (a==b)
 | .bl a, .int j=>some ((if a then 1 else 0)==j)
 | .int i, .bl b=>some (i==(if b then 1 else 0))
 | .int i, .int j=>some (i==j)
 | .str x, .str y=>some (x==y)
 | .non, .bl _=>some false
 | .non, .int _=>some false
 | .non, .str _=>some false
 | .non, .lst _=>some false
 | .non, .tup _=>some false
 | .bl _, .non=>some false
 | .bl _, .str _=>some false
 | .bl _, .lst _=>some false
 | .bl _, .tup _=>some false
 | .int _, .non=>some false
 | .int _, .str _=>some false
 | .int _, .lst _=>some false
 | .int _, .tup _=>some false
 | .str _, .non=>some false
 | .str _, .bl _=>some false
 | .str _, .int _=>some false
 | .str _, .lst _=>some false
 | .str _, .tup _=>some false
 | .lst _, .non=>some false
 | .lst _, .bl _=>some false
 | .lst _, .int _=>some false
 | .lst _, .str _=>some false
 | .lst _, .tup _=>some false
 | .tup _, .non=>some false
 | .tup _, .bl _=>some false
 | .tup _, .int _=>some false
 | .tup _, .str _=>some false
 | .tup _, .lst _=>some false
 |_,_=>none
def eqF:Nat→D→D→Option Bool
 |n+1, .tup xs, .tup ys=>eqL (eqF n) xs ys
 |n+1, .lst xs, .lst ys=>eqL (eqF n) xs ys
 |n+1, .scr xs, .lst ys=>eqL (eqF n) (xs.map D.int) ys
 |_,x,y=>jK x y
structure EqAll (A:Around) (s:Shared) (u v:Value) (b:Bool):Prop where
 rc:RcAt A s u v b
 ne:RcNeAt A s u v (!b)
 eq:EqAt A s u v b
section
variable {X : Cx} {pins : List (Addr × Obj)} {σ : St} {F H : Hp} {s : Shared} {A : Around}
theorem bM (I:Inv X pins σ H s) (hs:Same F H) {ds:List D}{v:V}{u:Value}(h:Den X.K F (.tup ds) v) (r:RelV v u):∃a vs its,u= .ref a∧v= .ref a∧F a=some (.tup vs)∧DenL X.K F ds vs∧Vals vs its∧s.heap.IsTuple a its.toArray:=by
 obtain⟨a,vs,rfl,h2,h3,h4⟩:=h
 obtain⟨its,r1,p1,_⟩:=I.tuple (SqT.of (hs _ _ h2))
 exact⟨a,vs,its,r,rfl,h2,h3,r1,p1⟩
theorem bD (I:Inv X pins σ H s) (hs:Same F H) {ds:List D}{v:V}{u:Value}(h:Den X.K F (.lst ds) v) (r:RelV v u):∃a vs its,u= .ref a∧v= .ref a∧F a=some (.lst vs)∧DenL X.K F ds vs∧Vals vs its∧s.heap.IsList a its.toArray:=by
 obtain⟨a,vs,rfl,h2,h3,h4⟩:=h
 obtain⟨its,r1,p1,_⟩:=I.list (SqL.of (hs _ _ h2))
 exact⟨a,vs,its,r,rfl,h2,h3,r1,p1.isList⟩
theorem pR (I:Inv X pins σ H s) (hs:Same F H) {ns:List Int}{v:V}{u:Value}(h:Den X.K F (.scr ns) v) (r:RelV v u):∃a its,u= .ref a∧v= .ref a∧SqL X.K F a (ns.map V.int)∧Vals (ns.map V.int) its∧s.heap.IsList a its.toArray:=by
 obtain⟨a,rfl,h2,h3⟩:=h
 obtain⟨its,r1,p1,_⟩:=I.list (Same.seq hs h2)
 exact⟨a,its,r,rfl,h2,r1,p1.isList⟩
theorem iQ (I:Inv X pins σ H s) (hs:Same F H) (hu:A.units<cLine) {x y:D}{v w:V}{u t:Value}{b:Bool}(hx:Den X.K F x v) (hy:Den X.K F y w) (rx:RelV v u) (ry:RelV w t) (e:jK x y=some b):EqAll A s u t b:=by
 cases x with
 |non=>
  cases y with
  |non=>
   cases e
   cases (show _=_ from hx)
   cases rx
   cases (show _=_ from hy)
   cases ry
   exact⟨RcAt.none_none,RcNeAt.none_none,EqAt.same _⟩
  |bl d=>
   cases e
   cases (show _=_ from hx)
   cases rx
   cases (show _=_ from hy)
   cases ry
   exact⟨RcAt.none_bool _,RcNeAt.none_bool _,EqAt.none_bool _⟩
  |int d=>
   cases e
   cases (show _=_ from hx)
   cases rx
   cases (show _=_ from hy)
   obtain⟨t2,rfl⟩:=ry
   exact⟨RcAt.none_int _ _,RcNeAt.none_int _ _,EqAt.none_int _ _⟩
  |str d=>
   cases e
   cases (show _=_ from hx)
   cases rx
   cases (show _=_ from hy.1)
   obtain⟨t2,rfl⟩:=ry
   exact⟨RcAt.none_str _ _,RcNeAt.none_str _ _,EqAt.none_str _ _⟩
  |raw d=>cases e
  |dct _ _=>cases e
  |dci _ _=>cases e
  |exc d=>cases e
  |scr d=>cases e
  |tup d=>
   cases e
   cases (show _=_ from hx)
   cases rx
   obtain⟨a2,_,_,rfl,_,_,_,_,p2⟩:=bM I hs hy ry
   exact⟨RcAt.none_tuple p2 hu,RcNeAt.none_tuple p2 hu,EqAt.none_tuple p2 hu⟩
  |lst d=>
   cases e
   cases (show _=_ from hx)
   cases rx
   obtain⟨a2,_,_,rfl,_,_,_,_,p2⟩:=bD I hs hy ry
   exact⟨RcAt.none_list p2 hu,RcNeAt.none_list p2 hu,EqAt.none_list p2 hu⟩
 |bl c=>
  cases y with
  |non=>
   cases e
   cases (show _=_ from hx)
   cases rx
   cases (show _=_ from hy)
   cases ry
   exact⟨RcAt.bool_none _,RcNeAt.bool_none _,EqAt.bool_none _⟩
  |bl d=>
   cases e
   cases (show _=_ from hx)
   cases rx
   cases (show _=_ from hy)
   cases ry
   exact⟨RcAt.bool_bool _ _,RcNeAt.bool_bool _ _,EqAt.bool_bool _ _⟩
  |int d=>
   cases e
   cases (show _=_ from hx)
   cases rx
   cases (show _=_ from hy)
   obtain⟨t2,rfl⟩:=ry
   exact⟨RcAt.bool_int _ _ _,RcNeAt.bool_int _ _ _,EqAt.bool_int _ _ _⟩
  |str d=>
   cases e
   cases (show _=_ from hx)
   cases rx
   cases (show _=_ from hy.1)
   obtain⟨t2,rfl⟩:=ry
   exact⟨RcAt.bool_str _ _ _,RcNeAt.bool_str _ _ _,EqAt.bool_str _ _ _⟩
  |raw d=>cases e
  |dct _ _=>cases e
  |dci _ _=>cases e
  |exc d=>cases e
  |scr d=>cases e
  |tup d=>
   cases e
   cases (show _=_ from hx)
   cases rx
   obtain⟨a2,_,_,rfl,_,_,_,_,p2⟩:=bM I hs hy ry
   exact⟨RcAt.bool_tuple _ p2 hu,RcNeAt.bool_tuple _ p2 hu,EqAt.bool_tuple _ p2 hu⟩
  |lst d=>
   cases e
   cases (show _=_ from hx)
   cases rx
   obtain⟨a2,_,_,rfl,_,_,_,_,p2⟩:=bD I hs hy ry
   exact⟨RcAt.bool_list _ p2 hu,RcNeAt.bool_list _ p2 hu,EqAt.bool_list _ p2 hu⟩
 |int c=>
  cases y with
  |non=>
   cases e
   cases (show _=_ from hx)
   obtain⟨t1,rfl⟩:=rx
   cases (show _=_ from hy)
   cases ry
   exact⟨RcAt.int_none _ _,RcNeAt.int_none _ _,EqAt.int_none _ _⟩
  |bl d=>
   cases e
   cases (show _=_ from hx)
   obtain⟨t1,rfl⟩:=rx
   cases (show _=_ from hy)
   cases ry
   exact⟨RcAt.int_bool _ _ _,RcNeAt.int_bool _ _ _,EqAt.int_bool _ _ _⟩
  |int d=>
   cases e
   cases (show _=_ from hx)
   obtain⟨t1,rfl⟩:=rx
   cases (show _=_ from hy)
   obtain⟨t2,rfl⟩:=ry
   exact⟨RcAt.int_int _ _ _ _,RcNeAt.int_int _ _ _ _,EqAt.int_int _ _ _ _⟩
  |str d=>
   cases e
   cases (show _=_ from hx)
   obtain⟨t1,rfl⟩:=rx
   cases (show _=_ from hy.1)
   obtain⟨t2,rfl⟩:=ry
   exact⟨RcAt.int_str _ _ _ _,RcNeAt.int_str _ _ _ _,EqAt.int_str _ _ _ _⟩
  |raw d=>cases e
  |dct _ _=>cases e
  |dci _ _=>cases e
  |exc d=>cases e
  |scr d=>cases e
  |tup d=>
   cases e
   cases (show _=_ from hx)
   obtain⟨t1,rfl⟩:=rx
   obtain⟨a2,_,_,rfl,_,_,_,_,p2⟩:=bM I hs hy ry
   exact⟨RcAt.int_tuple _ _ p2 hu,RcNeAt.int_tuple _ _ p2 hu,EqAt.int_tuple _ _ p2 hu⟩
  |lst d=>
   cases e
   cases (show _=_ from hx)
   obtain⟨t1,rfl⟩:=rx
   obtain⟨a2,_,_,rfl,_,_,_,_,p2⟩:=bD I hs hy ry
   exact⟨RcAt.int_list _ _ p2 hu,RcNeAt.int_list _ _ p2 hu,EqAt.int_list _ _ p2 hu⟩
 |str c=>
  cases y with
  |non=>
   cases e
   cases (show _=_ from hx.1)
   obtain⟨t1,rfl⟩:=rx
   cases (show _=_ from hy)
   cases ry
   exact⟨RcAt.str_none _ _,RcNeAt.str_none _ _,EqAt.str_none _ _⟩
  |bl d=>
   cases e
   cases (show _=_ from hx.1)
   obtain⟨t1,rfl⟩:=rx
   cases (show _=_ from hy)
   cases ry
   exact⟨RcAt.str_bool _ _ _,RcNeAt.str_bool _ _ _,EqAt.str_bool _ _ _⟩
  |int d=>
   cases e
   cases (show _=_ from hx.1)
   obtain⟨t1,rfl⟩:=rx
   cases (show _=_ from hy)
   obtain⟨t2,rfl⟩:=ry
   exact⟨RcAt.str_int _ _ _ _,RcNeAt.str_int _ _ _ _,EqAt.str_int _ _ _ _⟩
  |str d=>
   cases e
   cases (show _=_ from hx.1)
   obtain⟨t1,rfl⟩:=rx
   cases (show _=_ from hy.1)
   obtain⟨t2,rfl⟩:=ry
   exact⟨RcAt.str_str _ _ _ _,RcNeAt.str_str _ _ _ _,EqAt.str_str _ _ _ _⟩
  |raw d=>cases e
  |dct _ _=>cases e
  |dci _ _=>cases e
  |exc d=>cases e
  |scr d=>cases e
  |tup d=>
   cases e
   cases (show _=_ from hx.1)
   obtain⟨t1,rfl⟩:=rx
   obtain⟨a2,_,_,rfl,_,_,_,_,p2⟩:=bM I hs hy ry
   exact⟨RcAt.str_tuple _ _ p2 hu,RcNeAt.str_tuple _ _ p2 hu,EqAt.str_tuple _ _ p2 hu⟩
  |lst d=>
   cases e
   cases (show _=_ from hx.1)
   obtain⟨t1,rfl⟩:=rx
   obtain⟨a2,_,_,rfl,_,_,_,_,p2⟩:=bD I hs hy ry
   exact⟨RcAt.str_list _ _ p2 hu,RcNeAt.str_list _ _ p2 hu,EqAt.str_list _ _ p2 hu⟩
 |raw _=>cases y<;>cases e
 |dct _ _=>cases y<;>cases e
 |dci _ _=>cases y<;>cases e
 |exc _=>cases y<;>cases e
 |scr c=>cases y<;>cases e
 |tup c=>
  cases y with
  |non=>
   cases e
   obtain⟨a1,_,_,rfl,_,_,_,_,p1⟩:=bM I hs hx rx
   cases (show _=_ from hy)
   cases ry
   exact⟨RcAt.tuple_none p1 hu,RcNeAt.tuple_none p1 hu,EqAt.tuple_none p1 hu⟩
  |bl d=>
   cases e
   obtain⟨a1,_,_,rfl,_,_,_,_,p1⟩:=bM I hs hx rx
   cases (show _=_ from hy)
   cases ry
   exact⟨RcAt.tuple_bool _ p1 hu,RcNeAt.tuple_bool _ p1 hu,EqAt.tuple_bool _ p1 hu⟩
  |int d=>
   cases e
   obtain⟨a1,_,_,rfl,_,_,_,_,p1⟩:=bM I hs hx rx
   cases (show _=_ from hy)
   obtain⟨t2,rfl⟩:=ry
   exact⟨RcAt.tuple_int _ _ p1 hu,RcNeAt.tuple_int _ _ p1 hu,EqAt.tuple_int _ _ p1 hu⟩
  |str d=>
   cases e
   obtain⟨a1,_,_,rfl,_,_,_,_,p1⟩:=bM I hs hx rx
   cases (show _=_ from hy.1)
   obtain⟨t2,rfl⟩:=ry
   exact⟨RcAt.tuple_str _ _ p1 hu,RcNeAt.tuple_str _ _ p1 hu,EqAt.tuple_str _ _ p1 hu⟩
  |raw d=>cases e
  |dct _ _=>cases e
  |dci _ _=>cases e
  |exc d=>cases e
  |scr d=>cases e
  |tup d=>cases e
  |lst d=>
   cases e
   obtain⟨a1,_,_,rfl,_,_,_,_,p1⟩:=bM I hs hx rx
   obtain⟨a2,_,_,rfl,_,_,_,_,p2⟩:=bD I hs hy ry
   exact⟨RcAt.tuple_list p1 p2 hu,RcNeAt.tuple_list p1 p2 hu,EqAt.tuple_list p1 p2 hu⟩
 |lst c=>
  cases y with
  |non=>
   cases e
   obtain⟨a1,_,_,rfl,_,_,_,_,p1⟩:=bD I hs hx rx
   cases (show _=_ from hy)
   cases ry
   exact⟨RcAt.list_none p1 hu,RcNeAt.list_none p1 hu,EqAt.list_none p1 hu⟩
  |bl d=>
   cases e
   obtain⟨a1,_,_,rfl,_,_,_,_,p1⟩:=bD I hs hx rx
   cases (show _=_ from hy)
   cases ry
   exact⟨RcAt.list_bool _ p1 hu,RcNeAt.list_bool _ p1 hu,EqAt.list_bool _ p1 hu⟩
  |int d=>
   cases e
   obtain⟨a1,_,_,rfl,_,_,_,_,p1⟩:=bD I hs hx rx
   cases (show _=_ from hy)
   obtain⟨t2,rfl⟩:=ry
   exact⟨RcAt.list_int _ _ p1 hu,RcNeAt.list_int _ _ p1 hu,EqAt.list_int _ _ p1 hu⟩
  |str d=>
   cases e
   obtain⟨a1,_,_,rfl,_,_,_,_,p1⟩:=bD I hs hx rx
   cases (show _=_ from hy.1)
   obtain⟨t2,rfl⟩:=ry
   exact⟨RcAt.list_str _ _ p1 hu,RcNeAt.list_str _ _ p1 hu,EqAt.list_str _ _ p1 hu⟩
  |raw d=>cases e
  |dct _ _=>cases e
  |dci _ _=>cases e
  |exc d=>cases e
  |scr d=>cases e
  |tup d=>
   cases e
   obtain⟨a1,_,_,rfl,_,_,_,_,p1⟩:=bD I hs hx rx
   obtain⟨a2,_,_,rfl,_,_,_,_,p2⟩:=bM I hs hy ry
   exact⟨RcAt.list_tuple p1 p2 hu,RcNeAt.list_tuple p1 p2 hu,EqAt.list_tuple p1 p2 hu⟩
  |lst d=>cases e
end
def ev (f:D→D→Option Bool) (xs ys:List D) (j:Nat):Bool:=match xs[j]?,ys[j]? with
 |some x,some y=>(f x y).getD false
 |_,_=>false
theorem iP {f:D→D→Option Bool}:∀{xs ys:List D}{b:Bool},eqL f xs ys=some b→∀(j:Nat) (x y:D),xs[j]? =some x→ys[j]? =some y→∃c,f x y=some c
 |[],_,_,_,_,_,_,h,_=>by simp at h
 |_::_,[],_,_,_,_,_,_,h=>by simp at h
 |x::xs,y::ys,b,e,j,x',y',hx,hy=>by
  unfold eqL at e
  split at e
  ·rename_i b1 r1 e1 e2
   cases j with
   |zero=>simp at hx hy;subst hx hy;exact⟨_,e1⟩
   |succ j=>exact iP e2 j x' y' (by simpa using hx) (by simpa using hy)
  ·cases e
theorem gS {f:D→D→Option Bool}:∀{xs ys:List D}{b:Bool},eqL f xs ys=some b→b=((List.range (min xs.length ys.length)).all (ev f xs ys)&&xs.length==ys.length)
 |[],[],_,e=>by cases e;rfl
 |[],_::_,_,e=>by cases e;simp
 |_::_,[],_,e=>by cases e;simp
 |x::xs,y::ys,b,e=>by
  unfold eqL at e
  split at e
  ·rename_i b1 r1 e1 e2
   cases e
   have h:=gS e2
   rw[List.length_cons,List.length_cons,Nat.succ_min_succ,List.range_succ_eq_map,List.all_cons,List.all_map]
   have e0:ev f (x::xs) (y::ys) 0=b1:=by unfold ev;simp[e1]
   have e3:(ev f (x::xs) (y::ys)∘Nat.succ)=ev f xs ys:=by funext j;simp[ev,Function.comp]
   have e4:(xs.length+1==ys.length+1)=(xs.length==ys.length):=by simp
   rw[e0,e3,e4,h,Bool.and_assoc]
  ·cases e
section
variable {X : Cx} {pins : List (Addr × Obj)} {σ : St} {F H : Hp} {s : Shared}
theorem dm {f:D→D→Option Bool}(h:∀x y v b,Den X.K F x v→Den X.K F y v→f x y=some b→b=true):∀{xs ys:List D}{vs:List V}{b:Bool},DenL X.K F xs vs→DenL X.K F ys vs→eqL f xs ys=some b→b=true
 |[],[],_,_,_,_,e=>by cases e;rfl
 |[],_::_,_,_,h1,h2,_=>by
  cases (show _=_ from h1)
  obtain⟨v,r,z,_⟩:=h2
  cases z
 |_::_,[],_,_,h1,h2,_=>by
  cases (show _=_ from h2)
  obtain⟨v,r,z,_⟩:=h1
  cases z
 |x::xs,y::ys,_,b,⟨v,r,e1,q1,q2⟩,⟨v',r',e2,q3,q4⟩,e=>by
  subst e1
  cases e2
  unfold eqL at e
  split at e
  ·rename_i b1 r1 f1 f2
   cases e
   rw[h x y v b1 q1 q3 f1,dm h q2 q4 f2]
   rfl
  ·cases e
theorem gq {x y:D}{v:V}{b:Bool}(hx:Den X.K F x v) (hy:Den X.K F y v) (e:jK x y=some b):b=true:=by
 cases x<;>cases y<;>first
  |(cases e;done)
  |(cases e;cases (show _=_ from hx);cases (show _=_ from hy);first | rfl | simp)
  |(cases e;cases (show _=_ from hx.1);cases (show _=_ from hy.1);simp)
  |(cases e;cases (show _=_ from hx);cases (show _=_ from hy.1))
  |(cases e;cases (show _=_ from hx.1);cases (show _=_ from hy))
  |(cases e;obtain⟨_,_,z,_⟩:=hx;subst z;cases (show _=_ from hy);done)
  |(cases e;obtain⟨_,_,z,_⟩:=hx;subst z;cases (show _=_ from hy.1);done)
  |(cases e;obtain⟨_,z,_⟩:=hx;subst z;cases (show _=_ from hy);done)
  |(cases e;obtain⟨_,z,_⟩:=hx;subst z;cases (show _=_ from hy.1);done)
  |(cases e;obtain⟨_,_,z,_⟩:=hy;subst z;cases (show _=_ from hx);done)
  |(cases e;obtain⟨_,_,z,_⟩:=hy;subst z;cases (show _=_ from hx.1);done)
  |(cases e;obtain⟨_,z,_⟩:=hy;subst z;cases (show _=_ from hx);done)
  |(cases e;obtain⟨_,z,_⟩:=hy;subst z;cases (show _=_ from hx.1);done)
  |(cases e;obtain⟨_,_,z,h2,_⟩:=hx;obtain⟨_,_,z',h2',_⟩:=hy;subst z;cases z';rw[h2] at h2';cases h2';done)
  |(cases e;cases (show _=_ from hx);cases (show _=_ from hy);done)
  |(cases e;cases (show _=_ from hx.1);cases (show _=_ from hy.1);done)
theorem dk (I:Inv X pins σ H s) (hs:Same F H):∀(n:Nat) (x y:D) (v:V) (b:Bool),Den X.K F x v→Den X.K F y v→eqF n x y=some b→b=true
 |0,x,y,v,b,hx,hy,e=>gq hx hy (by unfold eqF at e;exact e)
 |n+1,x,y,v,b,hx,hy,e=>by
  unfold eqF at e
  split at e
  ·rename_i xs ys _
   obtain⟨a,vs,rfl,h2,h3,_⟩:=hx
   obtain⟨a',vs',z,k2,k3,_⟩:=hy
   cases z
   rw[h2] at k2
   cases k2
   exact dm (dk I hs _) h3 k3 (by simpa using e)
  ·rename_i xs ys _
   obtain⟨a,vs,rfl,h2,h3,_⟩:=hx
   obtain⟨a',vs',z,k2,k3,_⟩:=hy
   cases z
   rw[h2] at k2
   cases k2
   exact dm (dk I hs _) h3 k3 (by simpa using e)
  ·rename_i xs ys _
   obtain⟨a,rfl,h2,_⟩:=hx
   obtain⟨a',vs',z,k2,k3,_⟩:=hy
   cases z
   have hv:=I.list_inj (Same.seq hs h2) (SqL.of (hs _ _ k2))
   rw[←hv] at k3
   exact dm (dk I hs _) (DenL.ints xs) k3 (by simpa using e)
  ·exact gq hx hy e
theorem Vals.at {vs:List V}{its:List Value}(r:Vals vs its) {j:Nat}(h:j<its.toArray.size):∃v,vs[j]? =some v∧RelV v its.toArray[j]:=by
 have hl:=r.length
 have hj:j<vs.length:=by rw[List.size_toArray] at h;omega
 obtain⟨u,e1,e2⟩:=r.get (List.getElem?_eq_getElem hj)
 refine⟨vs[j],List.getElem?_eq_getElem hj,?_⟩
 have:its.toArray[j]=u:=by
  have:=(List.getElem?_eq_some_iff.mp e1).2
  simpa using this
 rw[this]
 exact e2
theorem eT {f:D→D→Option Bool}{A:Around}{xs ys:List D}{vs ws:List V}{its its2:List Value}{b:Bool}(h1:DenL X.K F xs vs) (h2:DenL X.K F ys ws) (r1:Vals vs its) (r2:Vals ws its2) (e:eqL f xs ys=some b)
 (ih:∀x y v w u t c,Den X.K F x v→Den X.K F y w→RelV v u→RelV w t→f x y=some c→EqAt A s u t c):
 ∀j (k1:j<its.toArray.size) (k2:j<its2.toArray.size),EqAt A s its.toArray[j] its2.toArray[j] (ev f xs ys j):=fun j k1 k2=>by
 obtain⟨v,e1,q1⟩:=Vals.at r1 k1
 obtain⟨w,e2,q2⟩:=Vals.at r2 k2
 obtain⟨x,e3,q3⟩:=h1.at e1
 obtain⟨y,e4,q4⟩:=h2.at e2
 obtain⟨c,hc⟩:=iP e j x y e3 e4
 have:ev f xs ys j=c:=by unfold ev;rw[e3,e4];simp[hc]
 rw[this]
 exact ih x y v w _ _ c q3 q4 q1 q2 hc
theorem gx {f:D→D→Option Bool}{A:Around}(hu:A.units<cLine) {xs ys:List D}{vs ws:List V}{its its2:List Value}{b:Bool}{a a':Addr}(h1:DenL X.K F xs vs) (h2:DenL X.K F ys ws) (r1:Vals vs its) (r2:Vals ws its2)
 (p1:s.heap.IsList a its.toArray) (p2:s.heap.IsList a' its2.toArray) (e:eqL f xs ys=some b) (hr:a=a'→b=true)
 (ih:∀x y v w u t c,Den X.K F x v→Den X.K F y w→RelV v u→RelV w t→f x y=some c→EqAt A.in1 s u t c):EqAll A s (.ref a) (.ref a') b:=by
 have l1:=h1.len
 have l2:=h2.len
 have l3:=r1.length
 have l4:=r2.length
 have hv:=gS e
 have core:RcAt A s (.ref a) (.ref a') b∧RcNeAt A s (.ref a) (.ref a') (!b):=by
  by_cases hl:xs.length=ys.length
  ·have hsz:its.toArray.size=its2.toArray.size:=by rw[List.size_toArray,List.size_toArray];omega
   have hb:b=(List.range its.toArray.size).all (ev f xs ys):=by
    rw[hv,hl,Nat.min_self,beq_self_eq_true,Bool.and_true]
    congr 2
    rw[List.size_toArray];omega
   rw[hb]
   exact⟨RcAt.lists p1 p2 hsz hu (eT h1 h2 r1 r2 e ih),RcNeAt.lists p1 p2 hsz hu (eT h1 h2 r1 r2 e ih)⟩
  ·have hb:b=false:=by rw[hv,show (xs.length==ys.length)=false from by simpa using hl,Bool.and_false]
   have hsz:(its.toArray.size !=its2.toArray.size)=true:=by
    rw[List.size_toArray,List.size_toArray]
    simp
    omega
   rw[hb]
   exact⟨RcAt.lists_lengths p1 p2 hsz hu,RcNeAt.lists_lengths p1 p2 hsz hu⟩
 refine⟨core.1,core.2,?_⟩
 by_cases hq:a=a'
 ·rw[hr hq]
  subst hq
  exact EqAt.same _
 ·exact EqAt.of_refs hq core.1
theorem jZ {f:D→D→Option Bool}{A:Around}(hu:A.units<cLine) {xs ys:List D}{vs ws:List V}{its its2:List Value}{b:Bool}{a a':Addr}(h1:DenL X.K F xs vs) (h2:DenL X.K F ys ws) (r1:Vals vs its) (r2:Vals ws its2)
 (p1:s.heap.IsTuple a its.toArray) (p2:s.heap.IsTuple a' its2.toArray) (e:eqL f xs ys=some b) (hr:a=a'→b=true)
 (ih:∀x y v w u t c,Den X.K F x v→Den X.K F y w→RelV v u→RelV w t→f x y=some c→EqAt A.in1 s u t c):EqAll A s (.ref a) (.ref a') b:=by
 have l1:=h1.len
 have l2:=h2.len
 have l3:=r1.length
 have l4:=r2.length
 have hb:b=((List.range (min its.toArray.size its2.toArray.size)).all (ev f xs ys)&&its.toArray.size==its2.toArray.size):=by
  rw[gS e,List.size_toArray,List.size_toArray,←l3,←l4,←l1,←l2]
 have core:RcAt A s (.ref a) (.ref a') b∧RcNeAt A s (.ref a) (.ref a') (!b):=by
  rw[hb]
  exact⟨RcAt.tuples p1 p2 hu (eT h1 h2 r1 r2 e ih),RcNeAt.tuples p1 p2 hu (eT h1 h2 r1 r2 e ih)⟩
 refine⟨core.1,core.2,?_⟩
 by_cases hq:a=a'
 ·rw[hr hq]
  subst hq
  exact EqAt.same _
 ·exact EqAt.of_refs hq core.1
theorem jL (I:Inv X pins σ H s) (hs:Same F H):∀(n:Nat) (A:Around) (x y:D) (v w:V) (u t:Value) (b:Bool),A.units+n<cLine→Den X.K F x v→Den X.K F y w→RelV v u→RelV w t→eqF n x y=some b→EqAll A s u t b
 |0,A,x,y,v,w,u,t,b,hu,hx,hy,rx,ry,e=>iQ I hs (by omega) hx hy rx ry (by unfold eqF at e;exact e)
 |n+1,A,x,y,v,w,u,t,b,hu,hx,hy,rx,ry,e=>by
  have hu0:A.units<cLine:=by omega
  have hu1:A.in1.units+n<cLine:=by show A.units+1+n<cLine;omega
  have hrefl:=dk (F:=F) I hs (n+1) x y
  have ih:∀x y v w u t c,Den X.K F x v→Den X.K F y w→RelV v u→RelV w t→eqF n x y=some c→EqAt A.in1 s u t c:=fun x y v w u t c q1 q2 q3 q4 q5=>(jL I hs n A.in1 x y v w u t c hu1 q1 q2 q3 q4 q5).eq
  have e0:=e
  unfold eqF at e
  split at e
  ·rename_i xs ys heq
   cases heq
   obtain⟨a,vs,its,rfl,ev1,h2,h3,r1,p1⟩:=bM I hs hx rx
   obtain⟨a',vs',its',rfl,ev2,k2,k3,r1',p1'⟩:=bM I hs hy ry
   exact jZ hu0 h3 k3 r1 r1' p1 p1' e (fun z=>by subst z;exact hrefl v b hx (by rw[ev1,←ev2];exact hy) e0) ih
  ·rename_i xs ys heq
   cases heq
   obtain⟨a,vs,its,rfl,ev1,h2,h3,r1,p1⟩:=bD I hs hx rx
   obtain⟨a',vs',its',rfl,ev2,k2,k3,r1',p1'⟩:=bD I hs hy ry
   exact gx hu0 h3 k3 r1 r1' p1 p1' e (fun z=>by subst z;exact hrefl v b hx (by rw[ev1,←ev2];exact hy) e0) ih
  ·rename_i xs ys heq
   cases heq
   obtain⟨a,its,rfl,ev1,h2,r1,p1⟩:=pR I hs hx rx
   obtain⟨a',vs',its',rfl,ev2,k2,k3,r1',p1'⟩:=bD I hs hy ry
   exact gx hu0 (DenL.ints _) k3 r1 r1' p1 p1' e (fun z=>by subst z;exact hrefl v b hx (by rw[ev1,←ev2];exact hy) e0) ih
  ·exact iQ I hs hu0 hx hy rx ry e
end
def gEq (x y:D):M D:=match eqF 6 x y with | some b=>M.ret (.bl b) | none=>M.stuck
def gNe (x y:D):M D:=match eqF 6 x y with | some b=>M.ret (.bl (!b)) | none=>M.stuck
def qj (K:PySem.W.Frag):R2:=fun x y H Q=>∃F dx dy b,Same F H∧Den K F dx x∧Den K F dy y∧eqF 6 dx dy=some b∧Q (.bl b) H
def qp (K:PySem.W.Frag):R2:=fun x y H Q=>∃F dx dy b,Same F H∧Den K F dx x∧Den K F dy y∧eqF 6 dx dy=some b∧Q (.bl (!b)) H
section
variable {X : Cx} {Xw : Nat → Hp → Prop} {a b : Expr} {δa δb : DE} {pos : Pos}
theorem l6 (hu:X.A.units+64<cLine):OpR X (compareOp .Eq) (qj X.K):=by
 intro pins s σ H x y v u Q I rx ry h
 obtain⟨F,dx,dy,b,hs,hx,hy,e,q⟩:=h
 exact(jL I hs 6 X.A dx dy x y v u b (by omega) hx hy rx ry e).rc _ _ _ _ ⟨.bl b,H,I,rfl,q⟩
theorem pd (hu:X.A.units+64<cLine):OpR X (compareOp .NotEq) (qp X.K):=by
 intro pins s σ H x y v u Q I rx ry h
 obtain⟨F,dx,dy,b,hs,hx,hy,e,q⟩:=h
 exact(jL I hs 6 X.A dx dy x y v u b (by omega) hx hy rx ry e).ne _ _ _ _ ⟨.bl (!b),H,I,rfl,q⟩
theorem l7 {K:PySem.W.Frag}:OpD K (qj K) gEq:=fun Xw F H x y dx dy Q s hx hy w=>by
 unfold gEq at w
 split at w
 ·rename_i b e
  exact⟨F,dx,dy,b,s,hx,hy,e,WP.now w s rfl⟩
 ·exact w.elim
theorem pe {K:PySem.W.Frag}:OpD K (qp K) gNe:=fun Xw F H x y dx dy Q s hx hy w=>by
 unfold gNe at w
 split at w
 ·rename_i b e
  exact⟨F,dx,dy,b,s,hx,hy,e,WP.now w s rfl⟩
 ·exact w.elim
theorem mx (hu:X.A.units+64<cLine) (ha:PD X Xw a δa) (hb:PD X Xw b δb):PDT X Xw (.Compare a [.Eq] [b] pos) (tB' (d2 gEq δa δb)):=kx (l6 hu) l7 ha hb
theorem qg (hu:X.A.units+64<cLine) (ha:PD X Xw a δa) (hb:PD X Xw b δb):PDT X Xw (.Compare a [.NotEq] [b] pos) (tB' (d2 gNe δa δb)):=kx (pd hu) pe ha hb
theorem gB (hu:X.A.units+64<cLine) (ha:PD X Xw a δa) (hb:PD X Xw b δb):PD X Xw (.Compare a [.Eq] [b] pos) (d2 gEq δa δb):=l_ (l6 hu) l7 ha hb
end
end L3
namespace L3
open PySem PySem.Spec L2 SeqAt
open PyProof.Rows hiding St
def PDW (X:Cx) (Xw:Nat→Hp→Prop) (e:Expr) (δ:DT):Prop:=PW X e (tDT X.K Xw δ)
theorem PW.weak {X:Cx}{e:Expr}{t t':TT}(h:PW X e t) (k:∀σ H Q,t' σ H Q→t σ H Q):PW X e t':=fun wh pins s σ H Q I w=>h wh pins s σ H Q I (k σ H Q w)
section
variable {X : Cx} {Xw : Nat → Hp → Prop} {a b c : Expr} {rest : List Expr} {δa δb δc : DE} {τa τb : DT} {pos : Pos}
theorem jh (ha:PDT X Xw a τa):PDW X Xw (.BoolOp .And [a] pos) τa:=n4 ha
theorem ib (ha:PDT X Xw a τa):PDW X Xw (.BoolOp .Or [a] pos) τa:=pM ha
theorem kq (ha:PDT X Xw a τa) (hb:PDW X Xw (.BoolOp .And (b::rest) pos) τb):PDW X Xw (.BoolOp .And (a::b::rest) pos) (jE τa τb):=PW.weak (pL ha hb) fun σ H Q ⟨F,ρ,s,w⟩=>by
 refine⟨F,ρ,s,WPB.mono (WPB.bindB w) fun v H1 ⟨F1,e1,w1⟩=>?_⟩
 cases v with
 |true=>exact⟨F1,ρ,s.ext e1,w1⟩
 |false=>exact w1 _ _ (Ext.refl e1.fh)
theorem jW (ha:PDT X Xw a τa) (hb:PDW X Xw (.BoolOp .Or (b::rest) pos) τb):PDW X Xw (.BoolOp .Or (a::b::rest) pos) (dOr τa τb):=PW.weak (qh ha hb) fun σ H Q ⟨F,ρ,s,w⟩=>by
 refine⟨F,ρ,s,WPB.mono (WPB.bindB w) fun v H1 ⟨F1,e1,w1⟩=>?_⟩
 cases v with
 |false=>exact⟨F1,ρ,s.ext e1,w1⟩
 |true=>exact w1 _ _ (Ext.refl e1.fh)
theorem PDW.t (h:PDW X Xw a τa):PDT X Xw a τa:=PW.pt h
theorem bP (ha:PDT X Xw a τa):PDT X Xw (.UnaryOp .Not a pos) (bt τa):=PT.weak (pK ha) fun σ H Q ⟨F,ρ,s,w⟩=>
 ⟨F,ρ,s,WPB.mono (WPB.bindB w) fun v H1 ⟨F1,e1,w1⟩=>w1 _ _ (Ext.refl e1.fh)⟩
def mS:D→M Bool
 | .non=>M.ret false
 | .bl b=>M.ret b
 | .lst ds=>M.ret (!ds.isEmpty)
 | .tup ds=>M.ret (!ds.isEmpty)
 |_=>M.stuck
def bu (δ:DE):DT:=fun ρ=>δ ρ>>=mS
theorem DenL.isEmpty {K:PySem.W.Frag}{F:Hp}{ds:List D}{vs:List V}(h:DenL K F ds vs):ds.isEmpty=vs.isEmpty:=by
 have:=h.len
 cases ds<;>cases vs<;>simp_all
theorem bQ (ha:PD X Xw a δa) (he:∀whole,isTrue a X.env whole=(do let v←whole;standAt a.pos;holding [v] (truthy v)):=by intro _;rfl):PDT X Xw a (bu δa):=PT.weak (my ha he) fun σ H Q ⟨F,ρ,s,w⟩=>by
 refine⟨F,ρ,s,WP.mono (WPB.bind (K:=X.K) w) fun v H1 ⟨F1,d,e1,q1,w1⟩=>?_⟩
 cases d with
 |non=>cases (show _=_ from q1);exact⟨false,rfl,w1 _ _ (Ext.refl e1.fh)⟩
 |bl b=>cases (show _=_ from q1);exact⟨b,rfl,w1 _ _ (Ext.refl e1.fh)⟩
 |lst ds=>
  obtain⟨a,vs,rfl,h2,h3,_⟩:=q1
  exact⟨!ds.isEmpty, .inl ⟨vs,SqL.of (e1.fh _ _ h2),by rw[h3.isEmpty]⟩,w1 _ _ (Ext.refl e1.fh)⟩
 |tup ds=>
  obtain⟨a,vs,rfl,h2,h3,_⟩:=q1
  exact⟨!ds.isEmpty, .inr (.inl ⟨vs,SqT.of (e1.fh _ _ h2),by rw[h3.isEmpty]⟩),w1 _ _ (Ext.refl e1.fh)⟩
 |_=>exact w1.elim
theorem mf {op} (h:PD X Xw a δa):PD X Xw (.BoolOp op [a] pos) δa:=pA h
theorem jV (ha:PD X Xw a δa) (hb:PD X Xw (.BoolOp .And (b::rest) pos) δb):PD X Xw (.BoolOp .And (a::b::rest) pos) (b5 δa δb):=PE.weak (pq ha hb) fun σ H Q ⟨F,ρ,s,w⟩=>by
 refine⟨F,ρ,s,WP.mono (WP.bind w) fun v H1 ⟨F1,d,e1,q1,w1⟩=>?_⟩
 cases d with
 |bl k=>
  refine⟨k,q1,?_⟩
  cases k with
  |true=>exact⟨F1,ρ,s.ext e1,w1⟩
  |false=>exact WP.now w1 e1.fh rfl
 |_=>exact w1.elim
theorem qb (hc:PDT X Xw c τa) (ha:PD X Xw a δa) (hb:PD X Xw b δb):PD X Xw (.IfExp c a b pos) (dIf τa δa δb):=PE.weak (mj hc ha hb) fun σ H Q ⟨F,ρ,s,w⟩=>by
 refine⟨F,ρ,s,WPB.mono (WP.bindB w) fun v H1 ⟨F1,e1,w1⟩=>?_⟩
 cases v with
 |true=>exact⟨F1,ρ,s.ext e1,w1⟩
 |false=>exact⟨F1,ρ,s.ext e1,w1⟩
def chI (p q:Int→Int→Bool) (a b c:DE):DE:=fun ρ=>a ρ>>=fun x=>b ρ>>=fun y=>match x,y with
 | .int i, .int j=>if p i j then c ρ>>=fun z=>gI (fun i j=> .bl (q i j)) y z else M.ret (.bl false)
 |_,_=>M.stuck
theorem lx {p q:Int→Int→Bool}:∀σ H Q,tD X.K Xw (chI p q δa δb δc) σ H Q→mP (rI0 fun i j=> .bl (p i j)) (rI0 fun i j=> .bl (q i j)) (tD X.K Xw δa) (tD X.K Xw δb) (tD X.K Xw δc) σ H Q:=fun σ H Q ⟨F,ρ,s,w⟩=>by
 refine⟨F,ρ,s,WP.mono (WP.bind w) fun v H1 ⟨F1,d,e1,q1,w1⟩=>?_⟩
 refine⟨F1,ρ,s.ext e1,WP.mono (WP.bind w1) fun u H2 ⟨F2,d',e2,q2,w2⟩=>?_⟩
 cases d with
 |int i=>
  cases d' with
  |int j=>
   refine⟨i,j,q1,q2,p i j,rfl,?_⟩
   have w2:WP X.K Xw F2 H2 (if p i j then δc ρ>>=fun z=>gI (fun i j=> .bl (q i j)) (.int j) z else M.ret (.bl false)) Q:=w2
   cases hp:p i j with
   |false=>
    rw[hp] at w2
    exact WP.now w2 e2.fh rfl
   |true=>
    rw[hp] at w2
    refine⟨F2,ρ,(s.ext e1).ext e2,WP.mono (WP.bind w2) fun u' H3 ⟨F3,d'',e3,q3,w3⟩=>?_⟩
    exact oE (K:=X.K) (gv:=fun i j=> .bl (q i j)) (gd:=fun i j=> .bl (q i j)) (fun _ _ _=>rfl) Xw F3 H3 u u' (.int j) d'' Q e3.fh q2 q3 w3
  |_=>exact w2.elim
 |_=>exact w2.elim
theorem mv {op op':CmpOp}{p q:Int→Int→Bool}(ho:OpR X (compareOp op) (rI0 fun i j=> .bl (p i j))) (ho':OpR X (compareOp op') (rI0 fun i j=> .bl (q i j))) (ha:PD X Xw a δa) (hb:PD X Xw b δb) (hc:PD X Xw c δc)
 (hm:lastMarks [op,op'] [b,c]=false:=by with_unfolding_all rfl):PDT X Xw (.Compare a [op,op'] [b,c] pos) (tB' (chI p q δa δb δc)):=PT.weak (mw ho ho' ha hb hc hm) fun σ H Q ⟨F,ρ,s,w⟩=>by
 refine lx σ H _ ⟨F,ρ,s,WP.mono (WPB.bind w) fun v H1 ⟨F1,d,e1,q1,w1⟩=>?_⟩
 cases d with
 |bl k=>exact⟨k,q1,w1 _ _ (Ext.refl e1.fh)⟩
 |_=>exact w1.elim
def iF (K:PySem.W.Frag) (r:List V→Hp→VK→Prop) (g:List D→M D):Prop:=∀(Xw:Nat→Hp→Prop) (F H:Hp) (vs:List V) (ds:List D) (Q:VK),Same F H→DenL K F ds vs→WP K Xw F H (g ds) Q→r vs H Q
variable {x : Str} {p : Pos} {e : Expr} {es : List Expr} {δs : DA} {id T : String} {r : List V → Hp → VK → Prop} {g : List D → M D}
theorem mO (h:iF X.K r g):∀σ H Q,tD X.K Xw (dA g δs) σ H Q→tCB r (tDA X.K Xw δs) σ H Q:=fun σ H Q ⟨F,ρ,s,w⟩=>
 ⟨F,ρ,s,WPL.mono (WP.bindL w) fun vs H1 ⟨F1,ds,e1,q1,w1⟩=>h Xw F1 H1 vs ds Q e1.fh q1 w1⟩
theorem dG (hc:CallR X (.builtin id) r) (hd:iF X.K r g) (hg:Gl X x) (hm:X.mg x=none) (hv:bootBuiltins x=some (.builtin id)) (ha:PDA X Xw (e::es) δs) (hn:x≠"__name__":=by decide) (hdb:(x==("__debug__":Str))=false:=by decide)
 (he:starEach (e::es) X.env=(false,eval e X.env)::starEach es X.env:=by rfl) (hpl:(backTo pos (starEach es X.env)).any (·.1)=false:=by rfl):PD X Xw (.Call (.Name x p) (e::es) [] pos) (dA g δs):=
 PE.weak (mi hc hg hm hv ha hn hdb he hpl) (mO hd)
theorem lg (hc:CallR X (.type T) r) (hd:iF X.K r g) (hg:Gl X x) (hm:X.mg x=none) (hv:bootBuiltins x=some (.type T)) (ha:PDA X Xw (e::es) δs) (hn:x≠"__name__":=by decide) (hdb:(x==("__debug__":Str))=false:=by decide)
 (he:starEach (e::es) X.env=(false,eval e X.env)::starEach es X.env:=by rfl) (hpl:(backTo pos (starEach es X.env)).any (·.1)=false:=by rfl):PD X Xw (.Call (.Name x p) (e::es) [] pos) (dA g δs):=
 PE.weak (lh hc hg hm hv ha hn hdb he hpl) (mO hd)
def bp:List D→M D
 |[.lst ds]=>M.ret (.int ds.length)
 |[.tup ds]=>M.ret (.int ds.length)
 |[.str x]=>M.ret (.int x.length)
 |[.scr ns]=>M.ret (.int ns.length)
 |_=>M.stuck
theorem kZ:iF X.K (fun xs H Q=>(∃p ys,xs=[.ref p]∧(SqL X.K H p ys∨SqT X.K H p ys)∧Q (.int ys.length) H)∨∃z,xs=[.str z]∧z.length≤sizeLine∧Q (.int z.length) H) bp:=fun Xw F H vs ds Q s h w=>by
 unfold bp at w
 split at w
 ·obtain⟨v,rfl,h1⟩:=h.one
  obtain⟨a,vs,rfl,h2,h3,_⟩:=h1
  exact .inl ⟨a,vs,rfl, .inl (SqL.of (s _ _ h2)),by rw[←h3.len];exact WP.now w s rfl⟩
 ·obtain⟨v,rfl,h1⟩:=h.one
  obtain⟨a,vs,rfl,h2,h3,_⟩:=h1
  exact .inl ⟨a,vs,rfl, .inr (SqT.of (s _ _ h2)),by rw[←h3.len];exact WP.now w s rfl⟩
 ·obtain⟨v,rfl,h1⟩:=h.one
  cases (show _=_ from h1.1)
  exact .inr ⟨_,rfl,by have:=h1.2;have:=a7;omega,WP.now w s rfl⟩
 ·obtain⟨v,rfl,h1⟩:=h.one
  obtain⟨a,rfl,h2,_⟩:=h1
  exact .inl ⟨a,_,rfl, .inl (Same.seq s h2),by rw[List.length_map];exact WP.now w s rfl⟩
 ·exact w.elim
theorem b9 (hg:Gl X "len") (hm:X.mg "len"=none) (ha:PDA X Xw [e] δs) (he:starEach [e] X.env=[(false,eval e X.env)]:=by rfl):PD X Xw (.Call (.Name "len" p) [e] [] pos) (dA bp δs):=
 dG (gK.or gL) kZ hg hm PySem.boot_len ha (by decide) (by decide) he rfl
end
end L3
namespace L3
open PySem PySem.Spec L2 SeqAt
open PyProof.Rows hiding St
theorem WP.xw {K:PySem.W.Frag}{Xw Xw':Nat→Hp→Prop}{F H:Hp}{m:M D}{Q:VK}(h:WP K Xw F H m Q) (k:∀n H,Xw n H→Xw' n H):WP K Xw' F H m Q:=by
 match m,h with
 |none,h=>exact h
 |some (.ok d),h=>exact h
 |some (.ex n),h=>exact fun F' H' e=>k n H' (h F' H' e)
theorem kv {X:Cx}{Xw:Nat→Hp→Prop}{st:Stmt}{τ:DS}(h:PSD X.nox (fun _ _=>False) st τ):PSD X Xw st (fun ρ=>noex (τ ρ)):=fun F₀ H₀ pins s σ H D I ⟨F,ρ,S,w⟩=>by
 have w:WPS X.K Xw F₀ H₀ (noex (τ ρ)) D:=w
 have w':tS X.K (fun _ _=>False) F₀ H₀ τ D σ H:=by
  refine⟨F,ρ,S,?_⟩
  rcases(τ ρ).cs with e | ⟨n,e⟩ | ⟨o,e⟩
  ·rw[e] at w;exact w.elim
  ·rw[e] at w;exact w.elim
  ·rw[e] at w⊢
   cases o with
   |nx ρ'=>exact w
   |rt d=>exact w
 refine wpAny_mono (h F₀ H₀ pins s σ H D (I.wish _) w') (fun f s' q=>SP.unwish q) fun _ _ z=>z.elim
def EX (cv:Nat→Value) (Xw:Nat→Hp→Prop):XK:=fun c _ H=>∃n,c=cv n∧Xw n H
def spD (K:PySem.W.Frag) (cv:Nat→Value) (k:Nat) (f:List D→M D):Sp:=fun vs H Q E=>∃F ds,Same F H∧DenL K F ds vs∧vs.length=k∧WP K (fun n H'=>E (cv n) none H') F H (f ds) Q
def bZ (n:Nat) (τ:DS):List D→M D:=fun ds=>τ (ds.map (fun d=>some (Sl.fz d))++List.replicate (n - ds.length) none)>>=fun o=>match o with
 | .nx _=>M.ret .non
 | .rt d=>M.ret d
section
variable {P : Program} {w : World} {K : PySem.W.Frag} {mg : Str → Option Value} {base : Heap} {CX : CXT} {cv : Nat → Value}
theorem p6 {x qual:Str}{st:Stmt}{f:Addr}{fd:FuncData}{N ps:List Str}{k:Nat}{τ:DS}(Fn:Fun K x qual st f fd) (S:FnScope N ps (af st))
 (hbody:∀(cdv:Value) (A:Around) (outer:List Env) (s:Shared) (H:Hp) (E:XK),Room k (A.deeper (envOfC qual (af st) s.heap.objs.size f cdv))→
  PSDs (av CX P w K mg base N qual (af st) f cdv A outer s H E) (fun n H'=>E (cv n) none H') (aq st) τ):FnOk P w K mg base CX (k+1) f fd ps (spD K cv ps.length (bZ N.length τ)):=by
 obtain⟨oc,od,kV,doc,pm,an,cdv,ct,osl,rfl,lk,hcd⟩:=Fn.ex
 refine p7 lk hcd S (fun vs H Q E ⟨_,_,_,_,hl,_⟩=>hl) fun A outer s H vs Q E hr hsp=>?_
 obtain⟨F,ds,fh,hd,hl,hw⟩:=hsp
 refine⟨_,hbody cdv A outer s H E hr F H,F,ds.map (fun d=>some (Sl.fz d))++List.replicate (N.length - ds.length) none,⟨Ext.refl fh,⟨fh,fun i sl e=>?_⟩,?_,fun i c a e=>?_,fun i j c c' a e=>?_⟩,?_⟩
 ·have hlen:=hd.len
  by_cases hi:i<ds.length
  ·rw[List.getElem?_append_left (by simpa using hi),List.getElem?_map] at e
   cases q:ds[i]? with
   |none=>rw[q] at e;cases e
   |some d=>
    rw[q] at e
    cases e
    obtain⟨v,e1,e2⟩:=hd.get q
    refine⟨v,?_,e2⟩
    unfold L2.start
    rw[List.getElem?_append_left (by simp;omega),List.getElem?_map,e1]
    rfl
  ·rw[List.getElem?_append_right (by simpa using hi),List.getElem?_replicate] at e
   split at e<;>cases e
 ·have hlen:=hd.len
  unfold L2.start
  simp[hlen]
 ·exfalso
  by_cases hi:i<ds.length
  ·rw[List.getElem?_append_left (by simpa using hi),List.getElem?_map] at e
   cases q:ds[i]? with
   |none=>rw[q] at e;cases e
   |some d=>rw[q] at e;cases e
  ·rw[List.getElem?_append_right (by simpa using hi),List.getElem?_replicate] at e
   split at e<;>cases e
 ·exfalso
  by_cases hi:i<ds.length
  ·rw[List.getElem?_append_left (by simpa using hi),List.getElem?_map] at e
   cases q:ds[i]? with
   |none=>rw[q] at e;cases e
   |some d=>rw[q] at e;cases e
  ·rw[List.getElem?_append_right (by simpa using hi),List.getElem?_replicate] at e
   split at e<;>cases e
 ·have hw:WP K (fun n H'=>E (cv n) none H') F H (τ (ds.map (fun d=>some (Sl.fz d))++List.replicate (N.length - ds.length) none)>>=fun o=>match o with | .nx _=>M.ret .non | .rt d=>M.ret d) Q:=hw
  rcases(τ (ds.map (fun d=>some (Sl.fz d))++List.replicate (N.length - ds.length) none)).cs with e | ⟨n,e⟩ | ⟨o,e⟩
  ·rw[e] at hw;exact hw.elim
  ·rw[e] at hw⊢;exact hw
  ·rw[e] at hw⊢
   cases o with
   |nx ρ'=>exact fun σ' F' H' s'=>hw .non H' F' s'.ext rfl
   |rt d=>exact fun v F' H' e' q=>hw v H' F' e' q
end
section
variable {X : Cx} {Xw : Nat → Hp → Prop} {CX : CXT} {cv : Nat → Value} {k m : Nat} {f : Addr} {fd : FuncData} {ps : List Str} {g : List D → M D} {x : Str} {p pos : Pos} {e : Expr} {es : List Expr} {δs : DA}
theorem nI (F:FnOk X.prog X.w X.K X.mg X.base CX k f fd ps (spD X.K cv m g)) (hr:Room k X.A) (hg:Gl X x) (hm:X.mg x=some (.ref f)) (hk:PySem.W.keepIn X.K (.ref f)=true) (hb:Binds X.K fd ps []) (hx:cK CX X (EX cv Xw))
 (ha:PDA X Xw (e::es) δs) (hl:(e::es).length=m) (hdb:(x==("__debug__":Str))=false:=by decide) (he:starEach (e::es) X.env=(false,eval e X.env)::starEach es X.env:=by rfl) (hpl:(backTo pos (starEach es X.env)).any (·.1)=false:=by rfl):
 PD X Xw (.Call (.Name x p) (e::es) [] pos) (fun ρ=>δs ρ>>=fun ds=>if ds.length=m then g ds else M.stuck):=PE.weak (nQ F hr hg hm hk hb .nil hx ha hdb he hpl) fun σ H Q ⟨F,ρ,s,w⟩=>by
 refine⟨F,ρ,s,WPL.mono (WP.bindL w) fun vs H1 ⟨F1,ds,e1,q1,w1⟩=>?_⟩
 split at w1
 ·rename_i hl1
  refine⟨F1,ds,e1.fh,by simpa using q1,by rw[List.append_nil,←q1.len];exact hl1,WP.xw w1 fun n H h=>⟨n,rfl,h⟩⟩
 ·exact w1.elim
theorem hZ {x:Str}{d:D}{v:V}{u:Value}(hg:Gl X x) (hm:X.mg x=some u) (r:RelV v u) (hd:∀F,Den X.K F d v) (hdb:(x==("__debug__":Str))=false:=by decide):PD X Xw (.Name x pos) (dC d):=
 cu (nS hg hm r hdb) hd
end
end L3
namespace L3
open PySem PySem.Spec L2 SeqAt
open PyProof.Rows hiding St
theorem obj_some {P:Program}{w:World}{H:Hp}{h:Heap}{a:Addr}{o:HO}(x:ObjOk P w H h a o):∃ob,h.get? a=some ob:=by
 cases o with
 |lst xs=>obtain⟨_,_,_,_,e⟩:=x;exact⟨_,e⟩
 |tup xs=>obtain⟨_,_,_,ob,e,_⟩:=x;exact⟨_,e⟩
 |dK kvs=>obtain⟨_,_,_,_,o,_,_,e,_⟩:=x;exact⟨_,e⟩
 |dT kvs=>obtain⟨_,_,_,_,o,_,_,e,_⟩:=x;exact⟨_,e⟩
 |set S n=>obtain⟨o,_,_,_,e,_⟩:=x;exact⟨_,e⟩
 |ins C dx fs=>obtain⟨_,_,_,e,_⟩:=x;exact⟨_,e⟩
 |own y=>obtain⟨_,e⟩:=x;exact⟨_,e⟩
 |xd fs=>obtain⟨_,⟨_,_,_,e,_⟩,_⟩:=x;exact⟨_,e⟩
 |rng lo hi=>obtain⟨_,_,_,e⟩:=x;exact⟨_,e⟩
 |frz ob u=>obtain⟨e,_⟩:=x;exact⟨_,e⟩
 |tbl ps=>exact⟨_,(show h.get? a=some _ from x)⟩
 |met f y=>exact⟨_,(show h.get? a=some _ from x)⟩
 |ext φ=>obtain⟨_,⟨_,e⟩,_⟩:=x;exact⟨_,e⟩
def CX1 (P:Program) (w:World) (cv:Nat→Value):CXT:=fun outer H s E e s'=>∃(ea:Addr) (n:Nat) (a0:Value) (B:Heap) (H':Hp),e= .ref ea∧s'.os=s.os∧AllBare s'.gens∧HOk P w H' s'.heap∧Un (frs outer) [] H H' s.heap s'.heap∧
 Heap.FlyingW B outer ea (cv n) a0 s'.heap∧(∀b o,s'.heap.get? b=some o→(H' b≠none∨(s.heap.get? b).isSome=true)→b∉frs outer→B.get? b=some o)∧E (cv n) none H'
section
variable {P : Program} {w : World} {fs : List Addr} {H₀ H : Hp} {h₀ h h' : Heap}
theorem iC (u:Un fs [] H₀ H h₀ h) (ka:∀b o,h.get? b=some o→b∉fs→(H b≠none∨(h₀.get? b).isSome=true)→h'.get? b=some o) (kb:∀b o,h.get? b=some o→b∈fs→∃sl,h'.get? b=some {o with slots:=sl}):Un fs [] H₀ H h₀ h' where
 keep:=fun b o e n hb hx=>ka b o (u.keep b o e n hb hx) hb (.inr (by rw[e];rfl))
 slot:=fun b o e n hb hx=>by
  obtain⟨sl,q⟩:=u.slot b o e n hb hx
  obtain⟨sl',q'⟩:=kb b _ q hb
  exact⟨sl',q'⟩
 free:=u.free
 there:=fun b o e hx=>by
  obtain⟨o',q⟩:=u.there b o e hx
  by_cases hb:b∈fs
  ·obtain⟨sl,q'⟩:=kb b _ q hb
   exact⟨_,q'⟩
  ·exact⟨o',ka b o' q hb (.inr (by rw[e];rfl))⟩
 tups:=u.tups
 frzs:=u.frzs
 tbls:=u.tbls
theorem fk (x:HOk P w H h) (hf:∀b∈fs,H b=none) (ka:∀b o,h.get? b=some o→b∉fs→H b≠none→h'.get? b=some o):HOk P w H h':=fun a o e=>by
 refine(x a o e).stay (fun b u hb q=>ka b u q (fun z=>?_) ?_) (fun _ q=>q) fun _ _ q=>q
 ·have hz:=hf b z
  rcases hb with rfl | hb
  ·rw[hz] at e;cases e
  ·rw[hz] at hb;cases hb
 ·rcases hb with rfl | hb
  ·rw[e];exact fun z=>nomatch z
  ·rw[hb];exact fun z=>nomatch z
end
section
variable {P : Program} {w : World} {K : PySem.W.Frag} {mg : Str → Option Value} {base : Heap} {N : List Str} {qual : Str} {scope : Scope} {f : Addr} {cd : Value} {A : Around} {outer : List Env} {s₀ : Shared} {H₀ : Hp} {E : XK} {cv : Nat → Value}
theorem bI:cK (CX1 P w cv) (av (CX1 P w cv) P w K mg base N qual scope f cd A outer s₀ H₀ E) (EX cv fun n H'=>E (cv n) none H'):=by
 intro pins σ H s e s' I ⟨ea,n,a0,B,H',he,hos,hg,hok,un,fly,hB,m,hm,hE⟩
 subst he
 have hloc:((av (CX1 P w cv) P w K mg base N qual scope f cd A outer s₀ H₀ E)).env.locals=s₀.heap.objs.size:=rfl
 have hstk:frs ((av (CX1 P w cv) P w K mg base N qual scope f cd A outer s₀ H₀ E)).stack=s₀.heap.objs.size::frs outer:=rfl
 show wpAny (model P w) (A.deeper (envOfC qual scope s₀.heap.objs.size f cd)) (leaving (envOfC qual scope s₀.heap.objs.size f cd) (.ref ea)) _ _ s'
 refine wpAny_leaves_onW (base:=B) (outer:=outer) (L:=s₀.heap.objs.size) I.ok.frames rfl fly fun h' fly' ups=>?_
 have hfr:∀b∈frs ((av (CX1 P w cv) P w K mg base N qual scope f cd A outer s₀ H₀ E)).stack,H' b=none:=fun b hb=>by
  obtain⟨o,ho⟩:∃o,s.heap.get? b=some o:=by
   obtain⟨_,o,ho,_⟩:=I.stack.mem hb
   exact⟨o,ho⟩
  exact un.free b o ho (I.stkFree b hb) (by simp)
 have keepB:∀b o,s'.heap.get? b=some o→b∉frs ((av (CX1 P w cv) P w K mg base N qual scope f cd A outer s₀ H₀ E)).stack→(H' b≠none∨(s.heap.get? b).isSome=true)→h'.get? b=some o:=fun b o e hb hc=>fly'.1 b o (hB b o e hc hb)
 have unA:Un (frs outer) [] H₀ H' s₀.heap s'.heap:=by
  have u1:Un (frs outer) [] H₀ H s₀.heap s.heap:=I.base
  refine⟨fun b o e nn hb hx=>?_,fun b o e nn hb hx=>?_,fun b o e nn hx=>?_,fun b o e hx=>?_,fun b xs q=>un.tups b xs (u1.tups b xs q),fun b o u q=>un.frzs b o u (u1.frzs b o u q),fun b ps q=>?_⟩
  ·refine un.keep b o (u1.keep b o e nn hb hx) (u1.free b o e nn hx) (fun z=>?_) (by simp)
   rw[hstk] at z
   rcases List.mem_cons.mp z with z | z
   ·exact absurd (Heap.lt_size e) (by rw[z];exact Nat.lt_irrefl _)
   ·exact hb z
  ·obtain⟨sl,q⟩:=u1.slot b o e nn hb hx
   obtain⟨sl',q'⟩:=un.slot b _ q (u1.free b o e nn hx) (by rw[hstk];exact List.mem_cons_of_mem _ hb) (by simp)
   exact⟨sl',q'⟩
  ·obtain⟨o',q⟩:=u1.there b o e hx
   exact un.free b o' q (u1.free b o e nn hx) (by simp)
  ·obtain⟨o',q⟩:=u1.there b o e hx
   exact un.there b o' q (by simp)
  ·obtain⟨m1,q1⟩:=u1.tbls b ps q
   obtain⟨m2,q2⟩:=un.tbls b _ q1
   exact⟨m1++m2,by rw[q2,Array.append_assoc]⟩
 have inS:∀b,(s₀.heap.get? b).isSome=true→(s.heap.get? b).isSome=true:=fun b hb=>by
  obtain⟨o,ho⟩:=Option.isSome_iff_exists.mp hb
  obtain⟨o',q⟩:=(show Un (frs outer) [] H₀ H s₀.heap s.heap from I.base).there b o ho (by simp)
  rw[q];rfl
 have nloc:∀b,(s₀.heap.get? b).isSome=true→b≠s₀.heap.objs.size:=fun b hb z=>by
  obtain⟨o,ho⟩:=Option.isSome_iff_exists.mp hb
  exact absurd (Heap.lt_size ho) (by rw[z];exact Nat.lt_irrefl _)
 have nstk:∀b,b∉frs outer→(H' b≠none∨(s₀.heap.get? b).isSome=true)→b∉frs ((av (CX1 P w cv) P w K mg base N qual scope f cd A outer s₀ H₀ E)).stack:=fun b hb hc z=>by
  rcases hc with hc | hc
  ·exact hc (hfr b z)
  ·rw[hstk] at z
   rcases List.mem_cons.mp z with z | z
   ·exact nloc b hc z
   ·exact hb z
 refine⟨ea,n,a0,B,H',rfl,hos.trans I.os,hg,fk hok hfr (fun b o e hb hc=>keepB b o e hb (.inl hc)),iC unA (fun b o e hb hc=>keepB b o e (nstk b hb hc) (hc.imp id (inS b))) (fun b o e hb=>?_),fly',fun b o e hc hb=>?_,?_⟩
 ·obtain⟨_,o',ho',hd⟩:=fly.2.2.1.mem (show b∈frs ((av (CX1 P w cv) P w K mg base N qual scope f cd A outer s₀ H₀ E)).stack by rw[hstk];exact List.mem_cons_of_mem _ hb)
  rw[e] at ho'
  cases ho'
  exact ups b o e hd
 ·have hb':=nstk b hb hc
  obtain⟨o',ho'⟩:∃o',s'.heap.get? b=some o':=by
   rcases hc with hc | hc
   ·cases q:H' b with
    |none=>exact absurd q hc
    |some u=>
     exact obj_some (hok b u q)
   ·obtain⟨o1,h1⟩:=Option.isSome_iff_exists.mp hc
    exact unA.there b o1 h1 (by simp)
  have:=hB b o' ho' (hc.imp id (inS b)) hb'
  rw[fly'.1 b o' this] at e
  cases e
  exact this
 ·rw[hm];exact hE
def ou (X:Cx) (cv:Nat→Value) (Xw:Nat→Hp→Prop):Prop:=∀(n:Nat) (pins:List (Addr×Obj)) (σ:St) (H:Hp) (s:Shared) (h':Heap) (ea:Addr) (args:List Value),Inv X pins σ H s→Heap.MadeExcOf s.heap h' ea (cv n) args→Xw n H→X.xe (.ref ea) {s with heap:=h'}
theorem oC:ou (av (CX1 P w cv) P w K mg base N qual scope f cd A outer s₀ H₀ E) cv (fun n H'=>E (cv n) none H'):=by
 intro n pins σ H s hh ea args I hx hE
 have hstk:frs ((av (CX1 P w cv) P w K mg base N qual scope f cd A outer s₀ H₀ E)).stack=s₀.heap.objs.size::frs outer:=rfl
 have hin:∀env∈((av (CX1 P w cv) P w K mg base N qual scope f cd A outer s₀ H₀ E)).stack,∀b,env.frame=some b→b∈frs ((av (CX1 P w cv) P w K mg base N qual scope f cd A outer s₀ H₀ E)).stack:=fun env he b hb=>List.mem_filterMap.mpr ⟨env,he,hb⟩
 have stays:(PySem.W.hideAll s.heap (frs ((av (CX1 P w cv) P w K mg base N qual scope f cd A outer s₀ H₀ E)).stack)).StaysIn s.heap:=fun b o q=>PySem.W.of_hideAll _ q
 show wpAny (model P w) (A.deeper (envOfC qual scope s₀.heap.objs.size f cd)) (leaving (envOfC qual scope s₀.heap.objs.size f cd) (.ref ea)) _ _ _
 refine wpAny_leaves_madeW (base:=PySem.W.hideAll s.heap (frs ((av (CX1 P w cv) P w K mg base N qual scope f cd A outer s₀ H₀ E)).stack)) (h:=s.heap) (outer:=outer) (L:=s₀.heap.objs.size) I.ok.frames rfl stays (PySem.W.funFrames_hide I.stack hin) hx fun h' t fly _ _ ups=>?_
 have hB:∀b o,s.heap.get? b=some o→b∉frs ((av (CX1 P w cv) P w K mg base N qual scope f cd A outer s₀ H₀ E)).stack→(PySem.W.hideAll s.heap (frs ((av (CX1 P w cv) P w K mg base N qual scope f cd A outer s₀ H₀ E)).stack)).get? b=some o:=fun b o e hb=>PySem.W.hideAll_get _ e hb
 have keepB:∀b o,s.heap.get? b=some o→b∉frs ((av (CX1 P w cv) P w K mg base N qual scope f cd A outer s₀ H₀ E)).stack→h'.get? b=some o:=fun b o e hb=>fly.1 b o (hB b o e hb)
 have u1:Un (frs outer) [] H₀ H s₀.heap s.heap:=I.base
 have nloc:∀b,(s₀.heap.get? b).isSome=true→b≠s₀.heap.objs.size:=fun b hb z=>by
  obtain⟨o,ho⟩:=Option.isSome_iff_exists.mp hb
  exact absurd (Heap.lt_size ho) (by rw[z];exact Nat.lt_irrefl _)
 have nstk:∀b,b∉frs outer→(H b≠none∨(s₀.heap.get? b).isSome=true)→b∉frs ((av (CX1 P w cv) P w K mg base N qual scope f cd A outer s₀ H₀ E)).stack:=fun b hb hc z=>by
  rcases hc with hc | hc
  ·exact hc (I.stkFree b z)
  ·rw[hstk] at z
   rcases List.mem_cons.mp z with z | z
   ·exact nloc b hc z
   ·exact hb z
 refine⟨ea,n, .ref t,PySem.W.hideAll s.heap (frs ((av (CX1 P w cv) P w K mg base N qual scope f cd A outer s₀ H₀ E)).stack),H,rfl,I.os,I.bare,fk I.hok I.stkFree (fun b o e hb hc=>keepB b o e hb),iC u1 (fun b o e hb hc=>keepB b o e (nstk b hb hc)) (fun b o e hb=>?_),fly,fun b o e hc hb=>?_,hE⟩
 ·obtain⟨_,o',ho',hd⟩:=I.stack.mem (show b∈frs ((av (CX1 P w cv) P w K mg base N qual scope f cd A outer s₀ H₀ E)).stack by rw[hstk];exact List.mem_cons_of_mem _ hb)
  rw[e] at ho'
  cases ho'
  exact ups b o (hx.keeps b o e) hd
 ·obtain⟨o',ho'⟩:∃o',s.heap.get? b=some o':=by
   rcases hc with hc | hc
   ·cases q:H b with
    |none=>exact absurd q hc
    |some u=>exact obj_some (I.hok b u q)
   ·obtain⟨o1,h1⟩:=Option.isSome_iff_exists.mp hc
    exact u1.there b o1 h1 (by simp)
  have hb':=nstk b hb hc
  rw[keepB b o' ho' hb'] at e
  cases e
  exact hB b o ho' hb'
end
section
variable {X : Cx} {Xw : Nat → Hp → Prop} {cv : Nat → Value} {n : Nat} {C : Addr} {x : Str} {np cpos pos : Pos} {e : Expr} {es : List Expr} {δs : DA} {bm : List Value} {B newId initId : String}
theorem gD (O:OwnCls x C bm newId X.mg X.base) (FB:ExcBaseFacts B newId initId bm) (hg:Gl X x) (hc:X.calm=true) (hcv:cv n= .ref C) (hx:ou X cv Xw) (ha:PDA X Xw (e::es) δs) (hdb:(x==("__debug__":Str))=false:=by decide)
 (he:starEach (e::es) X.env=(false,eval e X.env)::starEach es X.env:=by rfl) (hpl:(backTo cpos (starEach es X.env)).any (·.1)=false:=by rfl):
 PSD X Xw (.Raise (some (.Call (.Name x np) (e::es) [] cpos)) none pos) (fun ρ=>δs ρ>>=fun ds=>if ds.length≤lim then M.raise n else M.stuck):=fun F₀ H₀ pins s σ H D I ⟨F,ρ,S,w⟩=>by
 obtain⟨tl,Nn,nm,q,bs,hdct,sn,sub,ab,col,dd,k0,k1,k2,k3,k5,mN,hC,hN,hni,T⟩:=O.obj
 refine wpAny_Raise_call_subT (C:=C) (nm:=nm) (q:=q) (N:=Nn) (bs:=bs) (bm:=tl) (hdct:=hdct) (sn:=sn) (sub:=sub) (ab:=ab) (col:=col) (dd:=dd) (k0:=k0) (k1:=k1) (k2:=k2) (k3:=k3) (k5:=k5)
  FB (mN:=mN) (T.hasType FB.hasBase) (I.ok.hd hc) (by rw[he];show (false||(backTo cpos (starEach es X.env)).any (·.1))=false;rw[hpl];rfl) hni (eV I hg O.bound ⟨rfl,?_⟩ hdb)
 have w:WPS X.K Xw F₀ H₀ (δs ρ>>=fun ds=>if ds.length≤lim then M.raise n else M.stuck) D:=w
 have hA:=ha cpos pins s σ H (fun vs H1=>vs.length≤lim∧Xw n H1) I ⟨F,ρ,S.st,by
  rcases(δs ρ).cs with q | ⟨m,q⟩ | ⟨ds,q⟩
  ·rw[q] at w;exact w.elim
  ·rw[q] at w⊢;exact fun F' H' e'=>w F' H' (S.ext.trans e')
  ·rw[q] at w⊢
   intro vs H' F' e' hd
   have w:WPS X.K Xw F₀ H₀ (if ds.length≤lim then M.raise n else M.stuck) D:=w
   split at w
   ·rename_i hl
    exact⟨by rw[←hd.len];exact hl,w F' H' (S.ext.trans e')⟩
   ·exact w.elim⟩
 rw[he] at hA⊢
 refine Calls.evalArgs_plain (thn hA fun us s₂ ⟨vs,H1,I1,r,hl,hX⟩=>⟨rfl,by rw[←r.length];have:=a7;omega,I1.bk _ _ hC,hN.keeps I1.bk,T.keeps I1.bk,fun h' ea hm=>hx n pins σ H1 s₂ h' ea us I1 (by rw[hcv];exact hm) hX⟩)
end
end L3
namespace L3
open PySem PySem.Spec L2 SeqAt
open PyProof.Rows hiding St
def oB:D→Option String
 | .non=>some "NoneType"
 | .bl _=>some "bool"
 | .int _=>some "int"
 | .str _=>some "str"
 | .tup _=>some "tuple"
 | .lst _=>some "list"
 |_=>none
def oZ (k T:String):Option Bool:=if T="str"∨T="int"∨T="bool"∨T="tuple"∨T="list" then some (decide (k=T)||(decide (k="bool")&&decide (T="int"))) else none
def de:List D→M D
 |[d, .raw (.ty T)]=>match oB d with
  |some k=>match oZ k T with
   |some b=>M.ret (.bl b)
   |none=>M.stuck
  |none=>M.stuck
 |_=>M.stuck
theorem o8 {K:PySem.W.Frag}{k T:String}{b:Bool}(hk:k="NoneType"∨k="bool"∨k="int"∨k="str"∨k="tuple"∨k="list") (h:oZ k T=some b):PySem.W.kitOne K (.type k) (.type T)=some b:=by
 unfold oZ at h
 split at h
 ·rename_i hT
  cases h
  rcases hk with rfl | rfl | rfl | rfl | rfl | rfl<;>rcases hT with rfl | rfl | rfl | rfl | rfl<;>with_unfolding_all rfl
 ·cases h
section
variable {X : Cx} {Xw : Nat → Hp → Prop} {a b e e2 : Expr} {es : List Expr} {δa δb : DE} {δs : DA} {pos p : Pos}
def qk (K:PySem.W.Frag):List V→Hp→VK→Prop:=fun xs H Q=>∃x T t b,xs=[x, .ty T]∧TyOf K H x t∧PySem.W.kitOne K t (.type T)=some b∧Q (.bl b) H
theorem lE:CallR X (.builtin "isinstance") (qk X.K):=by
 intro pins s σ H xs us Q I r h
 obtain⟨x,T,t,b,rfl,ty,e,q⟩:=h
 obtain⟨u,w',rfl,r1,r2⟩:=vals2 r
 cases (show w'=_ from r2)
 exact kW I r1 ty e fun tk=>⟨.bl b,H,I.tok tk,rfl,q⟩
theorem mT {K:PySem.W.Frag}{F H:Hp}{d:D}{v:V}{k:String}(s:Same F H) (h:Den K F d v) (hk:oB d=some k):TyOf K H v (.type k)∧(k="NoneType"∨k="bool"∨k="int"∨k="str"∨k="tuple"∨k="list"):=by
 cases d with
 |non=>cases hk;cases (show _=_ from h);exact⟨.non, .inl rfl⟩
 |bl x=>cases hk;cases (show _=_ from h);exact⟨.bl x, .inr (.inl rfl)⟩
 |int x=>cases hk;cases (show _=_ from h);exact⟨.int x, .inr (.inr (.inl rfl))⟩
 |str x=>cases hk;cases (show _=_ from h.1);exact⟨.str x, .inr (.inr (.inr (.inl rfl)))⟩
 |tup x=>cases hk;obtain⟨a,vs,rfl,h2,_⟩:=h;exact⟨.tup (s _ _ h2), .inr (.inr (.inr (.inr (.inl rfl))))⟩
 |lst x=>cases hk;obtain⟨a,vs,rfl,h2,_⟩:=h;exact⟨.lst (s _ _ h2), .inr (.inr (.inr (.inr (.inr rfl))))⟩
 |_=>cases hk
theorem kU {K:PySem.W.Frag}:iF K (qk K) de:=fun Xw F H vs ds Q s h w=>by
 unfold de at w
 split at w
 ·rename_i d T
  obtain⟨v,v',rfl,h1,h2⟩:=h.two
  cases (show _=_ from h2)
  split at w
  ·rename_i k hk
   split at w
   ·rename_i b hb
    obtain⟨ty,hk'⟩:=mT s h1 hk
    exact⟨v,T, .type k,b,rfl,ty,o8 hk' hb,WP.now w s rfl⟩
   ·exact w.elim
  ·exact w.elim
 ·exact w.elim
theorem h7 (hg:Gl X "isinstance") (hm:X.mg "isinstance"=none) (hb:bootBuiltins "isinstance"=some (.builtin "isinstance")) (ha:PDA X Xw [e,e2] δs) (he:starEach [e,e2] X.env=(false,eval e X.env)::starEach [e2] X.env:=by rfl)
 (hpl:(backTo pos (starEach [e2] X.env)).any (·.1)=false:=by rfl):PD X Xw (.Call (.Name "isinstance" p) [e,e2] [] pos) (dA de δs):=
 dG lE kU hg hm hb ha (by decide) (by decide) he hpl
theorem jf {x:Str}{T:String}(hg:Gl X x) (hm:X.mg x=none) (hv:bootBuiltins x=some (.type T)) (hn:x≠"__name__":=by decide) (hd:(x==("__debug__":Str))=false:=by decide):PD X Xw (.Name x pos) (dC (.raw (.ty T))):=
 cu (v:= .ty T) (nP hg hm hv (show RelV (.ty T) (.type T) from rfl) hn hd) fun _=>rfl
def bools:List D→Option (List Bool)
 |[]=>some []
 | .bl b::r=>(bools r).map (b:: ·)
 |_=>none
def allM:List D→M D
 |[.lst ds]=>match bools ds with
  |some bs=>M.ret (.bl (bs.all id))
  |none=>M.stuck
 |_=>M.stuck
theorem gk {K:PySem.W.Frag}{F:Hp}:∀{ds:List D}{vs:List V}{bs:List Bool},bools ds=some bs→DenL K F ds vs→vs=bs.map V.bl
 |[],_,_,e,h=>by cases e;exact h
 | .bl b::r,_,_,e,⟨v,r',h1,h2,h3⟩=>by
   unfold bools at e
   cases q:bools r with
   |none=>rw[q] at e;cases e
   |some bs=>rw[q] at e;cases e;subst h1;rw[gk q h3,show v= .bl b from h2];rfl
 | .non::_,_,_,e,_=>by cases e
 | .int _::_,_,_,e,_=>by cases e
 | .str _::_,_,_,e,_=>by cases e
 | .raw _::_,_,_,e,_=>by cases e
 | .exc _::_,_,_,e,_=>by cases e
 | .scr _::_,_,_,e,_=>by cases e
 | .tup _::_,_,_,e,_=>by cases e
 | .lst _::_,_,_,e,_=>by cases e
theorem kF:∀{bs:List Bool}{its:List Value},Vals (bs.map V.bl) its→its=bs.map Value.bool
 |[],_,r=>by cases r;rfl
 |b::bs,_,r=>by
  cases r with
  |cons r1 r2=>cases (show _=_ from r1);rw[kF r2];rfl
def qK:List V→Hp→VK→Prop:=fun xs H Q=>∃(a:Addr) (bs:List Bool),xs=[.ref a]∧H a=some (.lst (bs.map V.bl))∧Q (.bl (bs.all id)) H
theorem all_range {bs:List Bool}:(List.range bs.length).all (fun i=>bs.getD i false)=bs.all id:=by
 induction bs with
 |nil=>rfl
 |cons b bs ih=>
  rw[List.length_cons,List.range_succ_eq_map,List.all_cons,List.all_map,List.all_cons]
  congr 1
theorem kI (hc:X.calm=true):CallR X (.builtin "all") qK:=by
 intro pins s σ H xs us Q I r h
 obtain⟨a,bs,rfl,hH,q⟩:=h
 obtain⟨u,rfl,r1⟩:=vals1 r
 cases (show u=_ from r1)
 obtain⟨its,r2,pl,hz⟩:=I.list (SqL.of (K:=X.K) hH)
 obtain rfl:=kF r2
 have hne:a≠s.heap.objs.size:=Nat.ne_of_lt (I.hok.lt hH)
 refine call_all_walk (wpAny_pyIter_list pl.isList ?_)
 refine⟨s.heap.objs.size,_,_,_,_,_,fun i=>bs.getD i false,rfl,Walks.list (A:=X.A.in1) (show X.A.in1.handled=none from I.ok.hd hc) s.heap.objs.size a hne (bs.map Value.bool).toArray,⟨⟨_,Heap.get?_push_size _ rfl,rfl,rfl⟩,Heap.IsList.at pl.isList fun o e=>Heap.get?_push_of_some _ e⟩,?_,fun h' tk k=>?_⟩
 ·intro i v s' Q' E' hv hq
  have hv:(bs.map Value.bool).toArray[i]? =some v:=hv
  rw[List.getElem?_toArray,List.getElem?_map] at hv
  cases q':bs[i]? with
  |none=>rw[q'] at hv;cases hv
  |some b=>
   rw[q'] at hv
   cases hv
   have:bs.getD i false=b:=by rw[List.getD_eq_getElem?_getD,q'];rfl
   have hq:Q' (bs.getD i false) s':=hq
   rw[this] at hq
   exact wpAny_truthy_bool hq
 ·have e:(List.range (bs.map Value.bool).toArray.size).all (fun i=>bs.getD i false)=bs.all id:=by
   rw[List.size_toArray,List.length_map];exact all_range
  rw[e]
  refine⟨.bl (bs.all id),H,I.kept (h':=h') (t':=tk) fun b o e'=>k b o (fun z=>?_) (Heap.get?_push_of_some _ e'),rfl,q⟩
  have z:b=s.heap.objs.size:=by simpa using z
  exact absurd (Heap.lt_size e') (by rw[z];exact Nat.lt_irrefl _)
theorem jU (hc:X.calm=true) (hg:Gl X "all") (hm:X.mg "all"=none) (hb:bootBuiltins "all"=some (.builtin "all")) (ha:PDA X Xw [e] δs) (he:starEach [e] X.env=[(false,eval e X.env)]:=by rfl):PD X Xw (.Call (.Name "all" p) [e] [] pos) (dA allM δs):=
 dG (kI hc) (fun Xw F H vs ds Q s h w=>by
  unfold allM at w
  split at w
  ·rename_i ds
   obtain⟨v,rfl,h1⟩:=h.one
   obtain⟨a,ws,rfl,h2,h3,_⟩:=h1
   split at w
   ·rename_i bs hb
    exact⟨a,bs,rfl,by rw[←gk hb h3];exact s _ _ h2,WP.now w s rfl⟩
   ·exact w.elim
  ·exact w.elim) hg hm hb ha (by decide) (by decide) he rfl
end
end L3
namespace L3
open PySem PySem.Spec L2 SeqAt
open PyProof.Rows hiding St
section
variable {X : Cx} {Xw : Nat → Hp → Prop} {a b e e2 : Expr} {es : List Expr} {δ δa δb : DE} {δs : DA} {pos p apos cpos : Pos}
theorem oo {i:Nat}:∀F₀ H₀ D σ H,tS X.K Xw F₀ H₀ (oi i δ) D σ H→oJ (tBM X.K "list" ky (mQ i) (oI (tD X.K Xw δ) qx)) D σ H:=fun F₀ H₀ D σ H ⟨F,ρ,s,w⟩=>by
 unfold oi at w
 cases ho:nH ρ i with
 |none=>rw[ho] at w;exact w.elim
 |some ds=>
  rw[ho] at w
  have hi:=lb ho
  obtain⟨v,hv,a,o,rfl,hH,hF,vs,rfl,hd,hl⟩:=s.st.den i _ hi
  have w:WPS X.K Xw F₀ H₀ (δ ρ>>=fun d=>if ds.length<lim then M.ret (.nx (ρ.set i (some (.ow (.lst (ds++[d])))))) else M.stuck) D:=w
  refine⟨.ref a,hv, .inl ⟨rfl,vs,SqL.of hH⟩,F,ρ,s.st,?_⟩
  rcases(δ ρ).cs with q | ⟨n,q⟩ | ⟨d,q⟩
  ·rw[q] at w;exact w.elim
  ·rw[q] at w⊢;exact fun F' H' e'=>w F' H' (s.ext.trans e')
  ·rw[q] at w⊢
   intro u H1 F1 e1 hq
   have w:WPS X.K Xw F₀ H₀ (if ds.length<lim then M.ret (.nx (ρ.set i (some (.ow (.lst (ds++[d])))))) else M.stuck) D:=w
   split at w
   ·rename_i hlt
    have hlen:=hd.len
    refine⟨a,vs,u,rfl,rfl,e1.hh _ _ hH,by have:=a7;omega,?_⟩
    exact w σ F1 _ ((s.ext' e1).chg (c₀:= .lst (ds++[d])) hi hv ⟨_,rfl,DenL.append (DenL.mono e1.ff hd) (.cons hq .nil),by rw[List.length_append];exact hlt⟩)
   ·exact w.elim
theorem nW {i:Nat}{x:Str}(hv:PE X (.Name x p) (mQ i)) (he:PD X Xw e δ) (hs:swapsWith (.Call (.Attribute (.Name x p) "append" apos) [e] [] cpos) none pos.line X.env=pure false:=by rfl)
 (hbase:attributeBase (.Name x p) "append" X.env (eval (.Name x p) X.env)=eval (.Name x p) X.env:=by rfl)
 (hfew:((backTo cpos (starEach [e] X.env)).all (fun x=>!x.1)&&(backToKw cpos (keywordEach [] X.env)).all (fun x=>x.1.isSome)&&decide ([e].length+([]:List Keyword).length+(if ([]:List Keyword).isEmpty then 0 else 1)<30))=true:=by rfl)
 (hline:(apos.endLine==cpos.line)=true:=by rfl) (hst:starEach [e] X.env=[(false,eval e X.env)]:=by rfl):PSD X Xw (.Expr (.Call (.Attribute (.Name x p) "append" apos) [e] [] cpos) pos) (oi i δ):=fun F₀ H₀=>
 PS.weak (kr (oF PySem.F.plainAttrs_list PySem.F.slot_list_append PySem.F.type_list_append gy hv (kh he l9 hst) hbase hfew hline hst rfl) hs) fun D σ H w=>oo F₀ H₀ D σ H w
theorem l5:OpR X (binaryOp .Add) (fun x y H Q=>∃a b ys,x= .ref a∧y= .ref b∧SqT X.K H a []∧SqT X.K H b ys∧Q (.ref b) H):=by
 intro pins s σ H x y v u Q I rx ry h
 obtain⟨a,b,ys,rfl,rfl,ha,hb,q⟩:=h
 cases rx
 cases ry
 obtain⟨its,r1,p1,_⟩:=I.tuple ha
 obtain⟨its2,r2,p2,_⟩:=I.tuple hb
 cases r1
 obtain⟨⟨cls,dd,data,sl⟩,ho,hc,n,hd⟩:=id p1
 obtain⟨⟨cls2,dd2,data2,sl2⟩,ho2,hc2,n2,hd2⟩:=id p2
 simp only at hc hd hc2 hd2
 subst hc hd hc2 hd2
 exact concat_meets ⟨_,ho,rfl⟩ ⟨_,ho2,rfl⟩ noFill_tuple_add seq_tuple_add PySem.F.slot_tuple_add PySem.F.entry_tuple_add (PySem.F.args_tuple_add_2 _ _)
  (tuple_addW0 a b _ _ n n2 dd dd2 sl sl2 (by simp)) ⟨ho,ho2,⟨.ref b,H,I,rfl,q⟩⟩
def iS:D→D→M D
 | .tup x, .tup y=>if x.length+y.length≤lim then M.ret (.tup (x++y)) else M.stuck
 |_,_=>M.stuck
theorem nJ (ha:PD X Xw a δa) (hb:PD X Xw b δb):PD X Xw (.BinOp a .Add b pos) (d2 iS δa δb):=eA (l5.or nv) (fun Xw F H x y dx dy Q s hx hy w=>by
 unfold iS at w
 split at w
 ·rename_i i j
  obtain⟨a,vs,h1,h2,h3,h4⟩:=hx
  obtain⟨a',vs',k1,k2,k3,k4⟩:=hy
  split at w
  ·rename_i hl
   have e1:=h3.len
   have e2:=k3.len
   have:=a7
   by_cases hv:vs=[]
   ·subst hv
    have:i=[]:=by cases i with | nil=>rfl | cons _ _=>simp at e1
    subst this
    exact .inl ⟨a,a',vs',h1,k1,SqT.of (s _ _ h2),SqT.of (s _ _ k2),WP.now w s ⟨a',vs',k1▸rfl,k2,k3,k4⟩⟩
   ·refine .inr ⟨a,a',vs,vs',h1,k1,SqT.of (s _ _ h2),SqT.of (s _ _ k2),hv,by omega,fun z=>?_,fun z p hp=>?_⟩
    ·subst z
     have:j=[]:=by cases j with | nil=>rfl | cons _ _=>simp at e2
     subst this
     rw[List.append_nil] at w
     exact WP.now w s ⟨a,vs,rfl,h2,h3,h4⟩
    ·exact WP.fin w (Ext.lay s hp) ⟨p,_,rfl,au,DenL.mono (Ext.lay s hp).ff (h3.append k3),by rw[List.length_append];exact hl⟩
  ·exact w.elim
 ·exact w.elim) ha hb
end
end L3
namespace L3
open PySem PySem.Spec L2 SeqAt
open PyProof.Rows hiding St
section
variable {X : Cx} {Xw : Nat → Hp → Prop} {a b e e2 o : Expr} {es : List Expr} {δ δa δb δo : DE} {δs : DA} {pos p apos cpos : Pos}
def dM (kd:D→Bool) (g:D→List D→M D) (o:DE) (s:DA):DE:=fun ρ=>o ρ>>=fun d=>if kd d then s ρ>>=fun ds=>g d ds else M.stuck
theorem ki {T:String}{name:Str}{id:String}{r:V→List V→Hp→VK→Prop}{kd:D→Bool}{g:D→List D→M D}(pa:PlainAttrs T) (slot:Slot T name id) (hty:typeOf (.builtin id)=pure (.type "method_descriptor")) (hm:MtR X id r)
 (hk:∀(F H:Hp) (x:V) (d:D),kd d=true→Same F H→Den X.K F d x→tyV X.K T x H)
 (hd:∀(Xw:Nat→Hp→Prop) (F H:Hp) (x:V) (vs:List V) (d:D) (ds:List D) (Q:VK),Same F H→Den X.K F d x→DenL X.K F ds vs→WP X.K Xw F H (g d ds) Q→r x vs H Q)
 (ho:PD X Xw o δo) (ha:PDA X Xw (e::es) δs)
 (hbase:attributeBase o name X.env (eval o X.env)=eval o X.env:=by rfl)
 (hfew:((backTo cpos (starEach (e::es) X.env)).all (fun x=>!x.1)&&(backToKw cpos (keywordEach [] X.env)).all (fun x=>x.1.isSome)
  &&decide ((e::es).length+([]:List Keyword).length+(if ([]:List Keyword).isEmpty then 0 else 1)<30))=true:=by rfl)
 (hline:(apos.endLine==cpos.line)=true:=by rfl) (hs:starEach (e::es) X.env=(false,eval e X.env)::starEach es X.env:=by rfl) (hplain:(backTo cpos (starEach es X.env)).any (·.1)=false:=by rfl):
 PD X Xw (.Call (.Attribute o name apos) (e::es) [] cpos) (dM kd g δo δs):=PE.weak (oF pa slot hty hm ho ha hbase hfew hline hs hplain) fun σ H Q ⟨F,ρ,s,w⟩=>by
 refine⟨F,ρ,s,WP.mono (WP.bind w) fun v H1 ⟨F1,d,e1,q1,w1⟩=>?_⟩
 split at w1
 ·rename_i hkd
  refine⟨hk F1 H1 v d hkd e1.fh q1,F1,ρ,s.ext e1,WPL.mono (WP.bindL w1) fun vs H2 ⟨F2,ds,e2,q2,w2⟩=>?_⟩
  exact hd Xw F2 H2 v vs d ds Q e2.fh (Den.mono e2.ff q1) q2 w2
 ·exact w1.elim
def isS:D→Bool
 | .str _=>true
 |_=>false
theorem gY {K:PySem.W.Frag}(F H:Hp) (x:V) (d:D) (h:isS d=true) (s:Same F H) (q:Den K F d x):tyV K "str" x H:=by
 cases d with
 |str z=>cases (show _=_ from q.1);exact rfl
 |_=>cases h
def dQ:List D→Option (List Str)
 |[]=>some []
 | .str x::r=>(dQ r).map (x:: ·)
 |_=>none
theorem dR {K:PySem.W.Frag}{F:Hp}:∀{ds:List D}{vs:List V}{xs:List Str},dQ ds=some xs→DenL K F ds vs→vs=xs.map V.str
 |[],_,_,e,h=>by cases e;exact h
 | .str b::r,_,_,e,⟨v,r',h1,h2,h3⟩=>by
   unfold dQ at e
   cases q:dQ r with
   |none=>rw[q] at e;cases e
   |some bs=>rw[q] at e;cases e;subst h1;rw[dR q h3,show v= .str b from h2.1];rfl
 | .non::_,_,_,e,_=>by cases e
 | .int _::_,_,_,e,_=>by cases e
 | .bl _::_,_,_,e,_=>by cases e
 | .raw _::_,_,_,e,_=>by cases e
 | .exc _::_,_,_,e,_=>by cases e
 | .scr _::_,_,_,e,_=>by cases e
 | .tup _::_,_,_,e,_=>by cases e
 | .lst _::_,_,_,e,_=>by cases e
theorem dS:∀{xs:List Str}{its:List Value},Vals (xs.map V.str) its→StrsAre its xs
 |[],_,r=>by cases r;exact .nil
 |b::bs,_,r=>by
  cases r with
  |cons r1 r2=>obtain⟨t,rfl⟩:=r1;exact .cons b t (dS r2)
def br:List Str→Str
 |[]=>⟨#[]⟩
 |x::r=>x++br r
def joinM:D→List D→M D
 | .str sep,[.lst ds]=>match dQ ds with
   |some xs=>if sep.length=0∧(xs.map (·.length)).sum≤lim then M.ret (.str (br xs)) else M.stuck
   |none=>M.stuck
 | .str sep,[.tup ds]=>match dQ ds with
   |some xs=>if sep.length=0∧(xs.map (·.length)).sum≤lim then M.ret (.str (br xs)) else M.stuck
   |none=>M.stuck
 |_,_=>M.stuck
theorem fb:∀xs:List Str,(br xs).length=(xs.map (·.length)).sum
 |[]=>rfl
 |x::r=>by
  show (x++br r).length=_
  rw[aO,fb r,List.map_cons,List.sum_cons]
theorem kE {x:Str}(h:x.length=0):x=⟨#[]⟩:=by
 obtain⟨⟨l⟩⟩:=x
 have:l.length=0:=h
 cases l with
 |nil=>rfl
 |cons _ _=>simp at this
theorem eB (x:Str):x++(⟨#[]⟩:Str)=x:=by
 obtain⟨c⟩:=x
 show (⟨c++ #[]⟩:Str)=⟨c⟩
 simp
theorem ej (sep:Str) (h:sep.length=0):∀xs:List Str,Txt.join sep xs=br xs:=by
 have e:=kE h
 subst e
 intro xs
 show Builtin.Str.glued _ xs=_
 rw[StrLaws.glued_eq_join]
 induction xs with
 |nil=>rfl
 |cons x r ih=>
  cases r with
  |nil=>show x=x++(⟨#[]⟩:Str);rw[eB]
  |cons y r=>show x++(⟨#[]⟩:Str)++Str.join _ (y::r)=x++br (y::r);rw[eB,ih]
def rJoin (K:PySem.W.Frag):V→List V→Hp→VK→Prop:=fun x vs H Q=>∃(sep:Str) (a:Addr) (xs:List Str),x= .str sep∧vs=[.ref a]∧(H a=some (.lst (xs.map V.str))∨H a=some (.tup (xs.map V.str)))∧sep.length=0∧(xs.map (·.length)).sum≤lim∧Q (.str (br xs)) H
theorem nk:MtR X "str.join" (rJoin X.K):=by
 intro pins s σ H x vs v us Q I rx rv h
 obtain⟨sep,a,xs,rfl,rfl,hH,hs,hl,q⟩:=h
 obtain⟨t,rfl⟩:=rx
 obtain⟨u,rfl,r1⟩:=rv.one
 cases (show u=_ from r1)
 have hok:(xs.map (·.length)).sum+xs.length*sep.length≤16777216:=by
  rw[hs,Nat.mul_zero]
  unfold lim at hl
  omega
 rcases hH with hH | hH
 ·obtain⟨its,r2,pl,hz⟩:=I.list (SqL.of (K:=X.K) hH)
  refine join_list pl.isList (by simpa using dS r2) hok fun t' k=>⟨.str (br xs),H,I.tok k,⟨t',by rw[ej sep hs]⟩,q⟩
 ·obtain⟨its,r2,pl,hz⟩:=I.tuple (SqT.of (K:=X.K) hH)
  refine join_tuple pl (by simpa using dS r2) hok fun t' k=>⟨.str (br xs),H,I.tok k,⟨t',by rw[ej sep hs]⟩,q⟩
theorem km (ho:PD X Xw o δo) (ha:PDA X Xw [e] δs) (hbase:attributeBase o "join" X.env (eval o X.env)=eval o X.env:=by rfl)
 (hfew:((backTo cpos (starEach [e] X.env)).all (fun x=>!x.1)&&(backToKw cpos (keywordEach [] X.env)).all (fun x=>x.1.isSome)&&decide ([e].length+([]:List Keyword).length+(if ([]:List Keyword).isEmpty then 0 else 1)<30))=true:=by rfl)
 (hline:(apos.endLine==cpos.line)=true:=by rfl) (hst:starEach [e] X.env=[(false,eval e X.env)]:=by rfl):PD X Xw (.Call (.Attribute o "join" apos) [e] [] cpos) (dM isS joinM δo δs):=
 ki PySem.F.plainAttrs_str PySem.F.slot_str_join PySem.F.type_str_join nk gY (fun Xw F H x vs d ds Q s hx hv w=>by
  unfold joinM at w
  split at w
  ·rename_i sep ds
   obtain⟨v,rfl,h1⟩:=hv.one
   obtain⟨a,ws,rfl,h2,h3,_⟩:=h1
   split at w
   ·rename_i xs hxs
    split at w
    ·rename_i hc
     exact⟨sep,a,xs,hx.1,rfl, .inl (by rw[←dR hxs h3];exact s _ _ h2),hc.1,hc.2,WP.now w s ⟨rfl,by rw[fb];exact hc.2⟩⟩
    ·exact w.elim
   ·exact w.elim
  ·rename_i sep ds
   obtain⟨v,rfl,h1⟩:=hv.one
   obtain⟨a,ws,rfl,h2,h3,_⟩:=h1
   split at w
   ·rename_i xs hxs
    split at w
    ·rename_i hc
     exact⟨sep,a,xs,hx.1,rfl, .inr (by rw[←dR hxs h3];exact s _ _ h2),hc.1,hc.2,WP.now w s ⟨rfl,by rw[fb];exact hc.2⟩⟩
    ·exact w.elim
   ·exact w.elim
  ·exact w.elim) ho ha hbase hfew hline hst rfl
def eC:List D→M D
 |[.lst ds]=>M.ret (.tup ds)
 |[.tup ds]=>M.ret (.tup ds)
 |_=>M.stuck
theorem je (hg:Gl X "tuple") (hm:X.mg "tuple"=none) (hb:bootBuiltins "tuple"=some (.type "tuple")) (ha:PDA X Xw [e] δs) (he:starEach [e] X.env=[(false,eval e X.env)]:=by rfl):PD X Xw (.Call (.Name "tuple" p) [e] [] pos) (dA eC δs):=
 lg fQ (fun Xw F H vs ds Q s h w=>by
  unfold eC at w
  split at w
  ·rename_i ds
   obtain⟨v,rfl,h1⟩:=h.one
   obtain⟨a,ws,rfl,h2,h3,h4⟩:=h1
   exact⟨a,ws,rfl, .inl ⟨SqL.of (s _ _ h2),fun l hl=>WP.fin w (Ext.lay s hl) ⟨l,ws,rfl,au,DenL.mono (Ext.lay s hl).ff h3,h4⟩⟩⟩
  ·rename_i ds
   obtain⟨v,rfl,h1⟩:=h.one
   obtain⟨a,ws,rfl,h2,h3,h4⟩:=h1
   exact⟨a,ws,rfl, .inr ⟨SqT.of (s _ _ h2),WP.now w s ⟨a,ws,rfl,h2,h3,h4⟩⟩⟩
  ·exact w.elim) hg hm hb ha (by decide) (by decide) he rfl
def lM (neg:Bool):D→D→M D
 | .str x, .str y=>M.ret (.bl (if neg then !(!(Builtin.Str.occurrences y x 0 y.length 1).isEmpty) else !(Builtin.Str.occurrences y x 0 y.length 1).isEmpty))
 |_,_=>M.stuck
theorem ph (ha:PD X Xw a δa) (hb:PD X Xw b δb) (hm:behindInMarks .In b=false:=by rfl):PD X Xw (.Compare a [.In] [b] pos) (d2 (lM false) δa δb):=l_ la (fun Xw F H x y dx dy Q s hx hy w=>by
 unfold lM at w
 split at w
 ·exact⟨_,_,hx.1,hy.1,WP.now w s rfl⟩
 ·exact w.elim) ha hb hm
end
end L3
namespace L3
open PySem PySem.Spec L2 SeqAt HT
open PyProof.Rows hiding St
section
variable {prog : Program} {w : World} {A : Around} {E : Value → Shared → Prop} {s : Shared}
theorem c5 {t sl:Addr}{items:Array Value}{vl vu:Value}{lo hi:Option Int}{Q:Value→Shared→Prop}(ht:IsTup s.heap t items) (hs:s.heap.IsSliceOf sl vl vu .none) (pl:IsPart vl lo) (pu:IsPart vu hi)
 (hw:sIx items.size 0 lo=0∧sIx items.size items.size hi=items.size) (h:Q (.ref t) s):wpAny (model prog w) A (getItem (.ref t) (.ref sl)) Q E s:=by
 obtain⟨os,hos,hcs,hds⟩:=id hs
 have hTs:s.TypeIs (.ref sl) "slice":=⟨os,hos,hcs⟩
 unfold getItem
 try with_reducible refine wpAny_holding ?_
 first | refine wpAny_bind (wpAny_pure ?_) | skip
 refine wpAny_bind (wpAny_sequenceKey ht.typeIs (by decide) ?_)
 refine wpAny_bind (wpAny_callSpecial?_slot (name:=Str.ofString "__getitem__") ht.typeIs PyProof.Rows.slot_tuple_getitem
  (wpAny_call_entry PyProof.Rows.slot_tuple_getitem ht.typeIs entry_tuple_getitem ?_ (args_tuple_getitem _ _)))
 show wpAny _ _ (Builtin.Tuple.tupleItemsOf (.ref t)>>=_) _ _ s
 refine wpAny_bind (tupleItemsOf_ ht ?_)
 refine wpAny_bind (wpAny_typeOf hTs ?_)
 rw[if_pos (by decide)]
 refine wpAny_bind (sliceApplied_gen hs pl pu ?_)
 have hno:((((sIx items.size 0 lo:Nat):Int)==0&&(1:Int)==1&&(sIx items.size items.size hi - sIx items.size 0 lo)==items.size)=true):=by
  rw[hw.1,hw.2]
  simp
 show wpAny _ _ (if (((sIx items.size 0 lo:Nat):Int)==0&&(1:Int)==1&&(sIx items.size items.size hi - sIx items.size 0 lo)==items.size)=true then _ else _) _ _ s
 rw[if_pos hno]
 refine wpAny_bind ?_
 unfold Builtin.Tuple.tupleIsExact
 refine wpAny_bind (wpAny_typeOf ht.typeIs (wpAny_pure ?_))
 rw[if_pos (by decide)]
 exact wpAny_bind (wpAny_rule (wpAny_pure ⟨_,rfl,wpAny_pure h⟩))
end
section
variable {X : Cx} {Xw : Nat → Hp → Prop} {a b e : Expr} {lo hi : Option Expr} {δ δa δb : DE} {pos p p2 : Pos}
theorem om:SlR X (fun x lo hi H Q=>∃a xs,x= .ref a∧SqT X.K H a xs∧(sIx xs.length 0 lo=0∧sIx xs.length xs.length hi=xs.length)∧Q (.ref a) H):=by
 intro pins s σ H x v vl vu lo hi sl Q I rx hs pl pu h
 obtain⟨a,xs,rfl,hx,hw,q⟩:=h
 cases rx
 obtain⟨its,r,ht,hz⟩:=I.tuple hx
 have hlen:its.toArray.size=xs.length:=by rw[List.size_toArray];exact r.length.symm
 exact⟨"tuple",_,PyProof.Rows.slot_tuple_getitem.lookup,ht.typeIs,c5 ht hs pl pu (by rw[hlen];exact hw) ⟨.ref a,H,I,rfl,q⟩⟩
theorem pT:SlR X (fun x lo hi H Q=>∃z:Str,x= .str z∧z.length≤lim∧Q (.str (Txt.slice z lo hi)) H):=by
 intro pins s σ H x v vl vu lo hi sl Q I rx hs pl pu h
 obtain⟨z,rfl,hl,q⟩:=h
 obtain⟨t,rfl⟩:=rx
 have hz:z.length≤sizeLine:=by have:=a7;omega
 cases pl with
 |none=>
  cases pu with
  |none=>exact⟨"str",_,PySem.F.slot_str_getitem.lookup,typeIs_str _ _ _,wpAny_getItem_str_slice (l:=none) (u:=none) (st:=none) hs rfl (post_val_or_str ⟨Nat.le_trans (Txt.slice_le z _ _) hz,fun t' k=>⟨.str _,H,I.tok k,⟨t',rfl⟩,q⟩⟩)⟩
  |int j uj=>exact⟨"str",_,PySem.F.slot_str_getitem.lookup,typeIs_str _ _ _,wpAny_getItem_str_slice (l:=none) (u:=some (j,uj)) (st:=none) hs rfl (post_val_or_str ⟨Nat.le_trans (Txt.slice_le z _ _) hz,fun t' k=>⟨.str _,H,I.tok k,⟨t',rfl⟩,q⟩⟩)⟩
 |int i ui=>
  cases pu with
  |none=>exact⟨"str",_,PySem.F.slot_str_getitem.lookup,typeIs_str _ _ _,wpAny_getItem_str_slice (l:=some (i,ui)) (u:=none) (st:=none) hs rfl (post_val_or_str ⟨Nat.le_trans (Txt.slice_le z _ _) hz,fun t' k=>⟨.str _,H,I.tok k,⟨t',rfl⟩,q⟩⟩)⟩
  |int j uj=>exact⟨"str",_,PySem.F.slot_str_getitem.lookup,typeIs_str _ _ _,wpAny_getItem_str_slice (l:=some (i,ui)) (u:=some (j,uj)) (st:=none) hs rfl (post_val_or_str ⟨Nat.le_trans (Txt.slice_le z _ _) hz,fun t' k=>⟨.str _,H,I.tok k,⟨t',rfl⟩,q⟩⟩)⟩
abbrev DO:=Rho→M (Option Int)
def WPO (Xw:Nat→Hp→Prop) (F H:Hp) (m:M (Option Int)) (Q:Option Int→Hp→Prop):Prop:=
 match m with
 |none=>False
 |some (.ok b)=>∀H' F',Ext F H F' H'→Q b H'
 |some (.ex n)=>∀F' H',Ext F H F' H'→Xw n H'
def tDO (K:PySem.W.Frag) (Xw:Nat→Hp→Prop) (δ:DO):TO:=fun σ H Q=>∃F ρ,StE K F H σ ρ∧WPO Xw F H (δ ρ) Q
def PDO (X:Cx) (Xw:Nat→Hp→Prop) (e:Option Expr) (δ:DO):Prop:=PO X e (tDO X.K Xw δ)
def oN:DO:=fun _=>M.ret none
def oS (δ:DE):DO:=fun ρ=>δ ρ>>=fun d=>match d with | .int i=>M.ret (some i) | _=>M.stuck
theorem aF:PDO X Xw none oN:=fun pins s σ H Q I ⟨F,ρ,S,w⟩=>nU pins s σ H Q I (w H F (Ext.refl S.fh))
theorem aB (h:PD X Xw e δ):PDO X Xw (some e) (oS δ):=fun pins s σ H Q I ⟨F,ρ,S,w⟩=>nV h pins s σ H Q I ⟨F,ρ,S,by
 have w:WPO Xw F H (δ ρ>>=fun d=>match d with | .int i=>M.ret (some i) | _=>M.stuck) Q:=w
 rcases(δ ρ).cs with q | ⟨n,q⟩ | ⟨d,q⟩
 ·rw[q] at w;exact w.elim
 ·rw[q] at w⊢;exact w
 ·rw[q] at w⊢
  intro v H' F' e' hd
  cases d with
  |int i=>exact⟨i,hd,w H' F' e'⟩
  |_=>exact w.elim⟩
theorem WP.bindO {K:PySem.W.Frag}{Xw:Nat→Hp→Prop}{F H:Hp}{Q:VK}{m:M (Option Int)}{k:Option Int→M D}(h:WP K Xw F H (m>>=k) Q):WPO Xw F H m fun b H1=>∃F1,Ext F H F1 H1∧WP K Xw F1 H1 (k b) Q:=by
 match m,h with
 |none,h=>exact h
 |some (.ok d),h=>exact fun H2 F2 e2=>⟨F2,e2,WP.ext e2 (show WP K Xw F H (k d) Q from h)⟩
 |some (.ex n),h=>exact h
theorem WPO.mono {Xw:Nat→Hp→Prop}{F H:Hp}{m:M (Option Int)}{Q Q':Option Int→Hp→Prop}(h:WPO Xw F H m Q) (k:∀v H',Q v H'→Q' v H'):WPO Xw F H m Q':=by
 match m,h with
 |none,h=>exact h
 |some (.ok d),h=>exact fun H2 F2 e2=>k _ _ (h H2 F2 e2)
 |some (.ex n),h=>exact h
def cutD (ds:List D) (lo hi:Option Int):List D:=(ds.drop (sIx ds.length 0 lo)).take (sIx ds.length ds.length hi - sIx ds.length 0 lo)
def slM:D→Option Int→Option Int→M D
 | .tup ds,lo,hi=>M.ret (.tup (cutD ds lo hi))
 | .lst ds,lo,hi=>M.ret (.lst (cutD ds lo hi))
 | .str x,lo,hi=>M.ret (.str (Txt.slice x lo hi))
 |_,_,_=>M.stuck
def dSl (a:DE) (lo hi:DO):DE:=fun ρ=>a ρ>>=fun d=>lo ρ>>=fun l=>hi ρ>>=fun h=>slM d l h
theorem iJ (ds:List D) (lo hi:Option Int):(cutD ds lo hi).length≤ds.length:=by
 unfold cutD
 rw[List.length_take,List.length_drop]
 omega
theorem DenL.cut {K:PySem.W.Frag}{F:Hp}{ds:List D}{vs:List V}(h:DenL K F ds vs) (lo hi:Option Int):DenL K F (cutD ds lo hi) (iK vs lo hi):=by
 unfold cutD iK
 rw[h.len]
 exact(h.drop _).take _
theorem bA {δo:DE}{κl κh:DO}(he:PD X Xw e δo) (hl:PDO X Xw lo κl) (hh:PDO X Xw hi κh):PD X Xw (.Subscript e (.Slice lo hi none p2) pos) (dSl δo κl κh):=
 PE.weak (mn (om.or (pU.or (oj.or pT))) he hl hh) fun σ H Q ⟨F,ρ,s,w⟩=>by
  refine⟨F,ρ,s,WP.mono (WP.bind w) fun v H1 ⟨F1,d,e1,q1,w1⟩=>?_⟩
  refine⟨F1,ρ,s.ext e1,WPO.mono (WP.bindO w1) fun l H2 ⟨F2,e2,w2⟩=>?_⟩
  refine⟨F2,ρ,(s.ext e1).ext e2,WPO.mono (WP.bindO w2) fun h H3 ⟨F3,e3,w3⟩=>?_⟩
  have q3:=Den.mono (e2.ff.trans e3.ff) q1
  have fh:=e3.fh
  cases d with
  |tup ds=>
   obtain⟨a,vs,rfl,h2,h3,h4⟩:=q3
   by_cases hw:sIx vs.length 0 l=0∧sIx vs.length vs.length h=vs.length
   ·refine .inl ⟨a,vs,rfl,SqT.of (fh _ _ h2),hw,?_⟩
    have hc:cutD ds l h=ds:=by
     unfold cutD
     rw[h3.len,hw.1,hw.2,Nat.sub_zero,List.drop_zero,←h3.len,List.take_length]
    have w3:WP X.K Xw F3 H3 (M.ret (.tup (cutD ds l h))) Q:=w3
    rw[hc] at w3
    exact WP.now w3 fh ⟨a,vs,rfl,h2,h3,h4⟩
   ·exact .inr (.inl ⟨a,vs,rfl,SqT.of (fh _ _ h2),hw,fun p hp=>WP.fin w3 (Ext.lay fh hp) ⟨p,_,rfl,au,DenL.mono (Ext.lay fh hp).ff (h3.cut l h),Nat.le_trans (iJ _ _ _) h4⟩⟩)
  |lst ds=>
   obtain⟨a,vs,rfl,h2,h3,h4⟩:=q3
   exact .inr (.inr (.inl ⟨a,vs,rfl,SqL.of (fh _ _ h2),fun p hp=>WP.fin w3 (Ext.lay fh hp) ⟨p,_,rfl,au,DenL.mono (Ext.lay fh hp).ff (h3.cut l h),Nat.le_trans (iJ _ _ _) h4⟩⟩))
  |str x=>exact .inr (.inr (.inr ⟨x,q3.1,q3.2,WP.now w3 fh ⟨rfl,Nat.le_trans (Txt.slice_le x _ _) q3.2⟩⟩))
  |_=>exact w3.elim
end
end L3
namespace L3
open PySem PySem.Spec L2 SeqAt HT
open PyProof.Rows hiding St
section
variable {prog : Program} {w : World} {A : Around} {E : Value → Shared → Prop} {s : Shared}
end
section
variable {X : Cx} {Xw : Nat → Hp → Prop} {a b e : Expr} {δ δa δb : DE} {pos p p2 : Pos}
end
end L3
namespace L3
open PySem PySem.Spec L2 SeqAt HT
open PyProof.Rows hiding St
def Itz (x:Str):It:=⟨fun i _=>i<x.cps.size,fun i H v H'=>H'=H∧∃c,x.cps[i]? =some c∧v= .str ⟨#[c]⟩,fun i _=>x.cps.size≤i⟩
theorem lz {P:Program}{w:World}{K:PySem.W.Frag}{tg:Expr}(it:Addr) (x:Str) (t:Tok):Turn P w K tg (Itz x) [it] it (fun i h=>i≤x.cps.size∧h.IsStrIter it "str_ascii_iterator" x t i) where
 mem:=by simp
 obj:=fun i h st b hb=>by
  have e:b=it:=by simpa using hb
  subst e
  obtain⟨_,o,e,c,d⟩:=st
  exact⟨o,e,fun v z=>by rw[d] at z;cases z⟩
 keep:=fun i h h' st k=>⟨st.1,let ⟨o,e,r⟩:=st.2;⟨o,k it (by simp) o e,r⟩⟩
 item:=by
  intro X hP hw hK hc i pins s σ H E I hf st hg
  subst hP hw hK
  obtain⟨f0,f1,f2,f3,f4,f5⟩:=hf it (by simp)
  have hi:i<x.cps.size:=hg
  refine(Walks.strAscii (prog:=X.prog) (w:=X.w) (I.ok.hd hc) it x t).item i s _ _ hi st.2 fun v h' tk hv st' kk=>?_
  obtain⟨c,u,hcx,rfl⟩:=hv
  have I1:Inv X pins σ H {s with heap:=h',toks:=tk}:=I.turned (fun b o hb e=>kk b o (by simpa using hb) e) f0 f1 f3 f4 f5
  obtain⟨o,e,cc,dd⟩:=id st'
  exact⟨_,rfl,iW (s:={s with heap:=h',toks:=tk}) e cc dd (by decide) ⟨.str ⟨#[c]⟩,H,I1,⟨u,rfl⟩,⟨rfl,c,hcx,rfl⟩,⟨hi,st'⟩,fun b hb=>(hf b hb).1⟩⟩
 done:=by
  intro X hP hw hK hc i pins s σ H E I hf st hg
  subst hP hw hK
  obtain⟨f0,f1,f2,f3,f4,f5⟩:=hf it (by simp)
  have hi:i=x.cps.size:=Nat.le_antisymm st.1 hg
  subst hi
  exact(Walks.strAscii (prog:=X.prog) (w:=X.w) (I.ok.hd hc) it x t).done s _ _ st.2 fun h' tk kk=>⟨rfl,I.turned (fun b o hb e=>kk b o (by simpa using hb) e) f0 f1 f3 f4 f5⟩
 self:=fun _ _ _ _ _ st h=>wpAny_pyIter_striter_ascii st.2 h
theorem lA {P:Program}{w:World}{K:PySem.W.Frag}{tg:Expr}(it:Addr) (x:Str) (t:Tok):Turn P w K tg (Itz x) [it] it (fun i h=>i≤x.cps.size∧h.IsStrIter it "str_iterator" x t i) where
 mem:=by simp
 obj:=fun i h st b hb=>by
  have e:b=it:=by simpa using hb
  subst e
  obtain⟨_,o,e,c,d⟩:=st
  exact⟨o,e,fun v z=>by rw[d] at z;cases z⟩
 keep:=fun i h h' st k=>⟨st.1,let ⟨o,e,r⟩:=st.2;⟨o,k it (by simp) o e,r⟩⟩
 item:=by
  intro X hP hw hK hc i pins s σ H E I hf st hg
  subst hP hw hK
  obtain⟨f0,f1,f2,f3,f4,f5⟩:=hf it (by simp)
  have hi:i<x.cps.size:=hg
  refine(Walks.strWide (prog:=X.prog) (w:=X.w) (I.ok.hd hc) it x t).item i s _ _ hi st.2 fun v h' tk hv st' kk=>?_
  obtain⟨c,u,hcx,rfl⟩:=hv
  have I1:Inv X pins σ H {s with heap:=h',toks:=tk}:=I.turned (fun b o hb e=>kk b o (by simpa using hb) e) f0 f1 f3 f4 f5
  obtain⟨o,e,cc,dd⟩:=id st'
  exact⟨_,rfl,iW (s:={s with heap:=h',toks:=tk}) e cc dd (by decide) ⟨.str ⟨#[c]⟩,H,I1,⟨u,rfl⟩,⟨rfl,c,hcx,rfl⟩,⟨hi,st'⟩,fun b hb=>(hf b hb).1⟩⟩
 done:=by
  intro X hP hw hK hc i pins s σ H E I hf st hg
  subst hP hw hK
  obtain⟨f0,f1,f2,f3,f4,f5⟩:=hf it (by simp)
  have hi:i=x.cps.size:=Nat.le_antisymm st.1 hg
  subst hi
  exact(Walks.strWide (prog:=X.prog) (w:=X.w) (I.ok.hd hc) it x t).done s _ _ st.2 fun h' tk kk=>⟨rfl,I.turned (fun b o hb e=>kk b o (by simpa using hb) e) f0 f1 f3 f4 f5⟩
 self:=fun _ _ _ _ _ st h=>wpAny_pyIter_striter_wide st.2 h
section
variable {X : Cx} {Xw : Nat → Hp → Prop} {tg a b e l o : Expr} {δ δa δb δo : DE} {δs : DA} {pos p p2 apos cpos : Pos}
def qE (tl:TE):TI:=fun σ H R=>tl σ H fun x H1=>∃z,x= .str z∧R (Itz z) H1
theorem pG {tl:TE}(hl:PE X l tl):PI X tg l (qE tl):=by
 intro pins s σ H R I h
 refine thn (hl pins s σ H _ I h) fun v s1 ⟨x,H1,I1,r1,q1⟩=>?_
 obtain⟨z,e,q⟩:=q1
 subst e
 obtain⟨t,rfl⟩:=r1
 have fp:∀b∈[s1.heap.objs.size],iG X pins H1 b:=fun b hb=>by
  have e:b=s1.heap.objs.size:=by simpa using hb
  subst e
  exact I1.fpOk (Nat.le_refl _) (I1.hok.fresh (Nat.le_refl _))
 cases ha:z.cps.all (· <128)
 ·exact wpAny_pyIter_wide ha ⟨s1.heap.objs.size,[s1.heap.objs.size],_,_,H1,rfl,I1.kept (t':=s1.toks) fun b o e=>Heap.get?_push_of_some _ e,lA _ z t,⟨Nat.zero_le _,_,Heap.get?_push_size _ rfl,rfl,rfl⟩,fp,q⟩
 ·exact wpAny_pyIter_ascii ha ⟨s1.heap.objs.size,[s1.heap.objs.size],_,_,H1,rfl,I1.kept (t':=s1.toks) fun b o e=>Heap.get?_push_of_some _ e,lz _ z t,⟨Nat.zero_le _,_,Heap.get?_push_size _ rfl,rfl,rfl⟩,fp,q⟩
def signs (x:Str):List D:=x.cps.toList.map fun c=>D.str ⟨#[c]⟩
def pS:D→M (List D)
 | .str x=>M.ret (signs x)
 |_=>M.stuck
theorem m9 {K:PySem.W.Frag}{F:Hp}(x:Str):ItD K F (Itz x) (signs x):=fun F' H' i s1 s2=>by
 refine⟨fun d e=>?_,fun hl=>show x.cps.size≤i by simpa[signs] using hl⟩
 unfold signs at e
 rw[List.getElem?_map] at e
 cases q:x.cps.toList[i]? with
 |none=>rw[q] at e;cases e
 |some c=>
  rw[q] at e
  cases e
  have hi:i<x.cps.size:=by
   have:=(List.getElem?_eq_some_iff.mp q).1
   simpa using this
  refine⟨hi,fun v H'' y=>?_⟩
  obtain⟨e2,c',hc',rfl⟩:=y
  subst e2
  have:c'=c:=by
   have q':x.cps[i]? =some c:=by simpa using q
   rw[q'] at hc'
   exact(Option.some.inj hc').symm
  subst this
  exact⟨F',Ext.refl s2,rfl,by show 1≤lim;decide⟩
theorem nO (h:PD X Xw l δ):PDI X Xw tg l (fun ρ=>δ ρ>>=pS):=PI.weak (pG h) fun σ H R ⟨F,ρ,s,w⟩=>by
 refine⟨F,ρ,s,WP.mono (WPI.bind w) fun v H1 ⟨F1,d,e1,q1,w1⟩=>?_⟩
 cases d with
 |str z=>exact⟨z,q1.1,w1 _ _ _ (Ext.refl e1.fh) (m9 z)⟩
 |_=>exact w1.elim
end
end L3
namespace L3
open PySem PySem.Spec L2 SeqAt HT
open PyProof.Rows hiding St
open PySem.W (Frag Looks InstAt findIn mroIn)
open PySem.Builtin PySem.Builtin.ObjectAttr PySem.Builtin.Getset_descriptor
section
variable {prog : Program} {w : World} {A : Around} {E : Value → Shared → Prop} {h : Heap} {g : Array GenState} {d : Drawn} {t : Nat} {os : OsState} {x D : Addr} {ox : Obj} {K : Frag}
theorem jC {tp:Value}{R:Result→Shared→Prop}(X:K.In h) (hx:h.get? x=some ox) (hc:ox.cls= .ref D) (hm:mroIn K D (.type "object")=some true)
 (hq:R (.ok (.ret (.ref D))) ⟨h,g,d,t,os⟩):codeAny (model prog w) A (.call (.builtin "getset_descriptor.__get__") ⟨[.builtin "object.__class__", .ref x,tp],[]⟩) R ⟨h,g,d,t,os⟩:=by
 have L0:Looks (model prog w) h (typeOf (.ref x)) (.ref D):=hc▸(Looks.ld hx).andThen .now
 have L1:=PySem.W.looks_mroIn (M:=model prog w) X hm
 refine codeAny_call_builtin PySem.W.KF.slot_gs.plain PySem.W.KF.entry_gs (PySem.W.KF.slot_gs.check _ _ _ _ _ _ _ _ PySem.W.KF.type_class (PySem.W.KF.args_gs _ _ _) ?_)
 unfold Builtin.«getset_descriptor.__get__» descrGet
 rw[PySem.W.dga_obj]
 refine wpAny_bind (wpAny_pure ?_)
 unfold descrGetter descrCheckInstance descrNameAndClass isInstance
 simp only[PySem.W.KF.owner_class]
 repeat lk
 refine⟨Code.quiet_builtin _ (by decide+kernel),codeAny_builtin PySem.W.KF.entry_class ?_⟩
 unfold Builtin.«object.__class__» shownTypeOf
 repeat lk
 exact hq
theorem eP {tk:Tok}{Q:PySem.Fin→Shared→Prop}(X:K.In h) (hx:h.get? x=some ox) (hc:ox.cls= .ref D) (ha:findIn K (.ref D) "__class__"=some (some (.builtin "object.__class__"))) (hm:mroIn K D (.type "object")=some true)
 (hq:Q (.done (.ret (.ref D))) ⟨h,g,d,t,os⟩):wpAny (model prog w) A (Builtin.«object.__getattribute__» ⟨[.ref x, .str "__class__" tk],[]⟩) Q E ⟨h,g,d,t,os⟩:=by
 have hT5:(⟨h,g,d,t,os⟩:Shared).TypeIs (.builtin "object.__class__") "getset_descriptor":=F.typeOf_object_class
 have f5:=F.typeOf_object_class
 have f6:=F.slot_gs_get.lookup
 have f7:=F.slot_gs_set.lookup
 have LC:Looks (model prog w) h (typeLookup (.ref D) "__class__") (some (.builtin "object.__class__")):=PySem.W.looks_findIn X ha
 repeat (any_goals (first | assumption | (with_reducible refine wpAny_loadPart_at hx ?_;rw[hc]) | with_reducible refine LC.at ?_ | wp_step))
 exact jC X hx hc hm (wpAny_pure hq)
theorem gM {M:Model}{nameV:Value}{Q:Unit→Shared→Prop}(X:K.In h) (hx:h.get? x=some ox) (hc:ox.cls= .ref D) (hb:mroIn K D (.type "BaseException")=some true) (hq:Q () ⟨h,g,d,t,os⟩):
 wpAny M A (checkBuiltinCall "BaseException.__getattribute__" ⟨[.ref x,nameV],[]⟩) Q E ⟨h,g,d,t,os⟩:=by
 have hk:builtinKind "BaseException.__getattribute__"=some .slot:=by decide+kernel
 have hsplit:splitId "BaseException.__getattribute__"=some ("BaseException","__getattribute__"):=by decide+kernel
 have LB:Looks M h (isSubtype (.ref D) (.type "BaseException")) true:=PySem.W.looks_mroIn X hb
 have ha:=F.args_bexc_ga (.ref x) nameV
 simp only[checkBuiltinCall,hk,hsplit]
 refine wpAny_bind ?_
 ·unfold isInstance
  repeat (first | (with_reducible refine wpAny_loadPart_at hx ?_;rw[hc]) | with_reducible refine LB.at ?_ | wp_step)
  exact hq
theorem fe {tk:Tok}{R:Result→Shared→Prop}(X:K.In h) (hx:h.get? x=some ox) (hc:ox.cls= .ref D) (ha:findIn K (.ref D) "__class__"=some (some (.builtin "object.__class__"))) (hm:mroIn K D (.type "object")=some true) (hb:mroIn K D (.type "BaseException")=some true)
 (hq:R (.ok (.ret (.ref D))) ⟨h,g,d,t,os⟩):codeAny (model prog w) A (.call (.builtin "BaseException.__getattribute__") ⟨[.ref x, .str "__class__" tk],[]⟩) R ⟨h,g,d,t,os⟩:=
 codeAny_call_builtin (by decide+kernel) F.entry_bexc_ga (gM X hx hc hb (eP X hx hc ha hm hq))
theorem fc {Q:Option Value→Shared→Prop}(X:K.In h) (hx:h.get? x=some ox) (hc:ox.cls= .ref D) (hga:findIn K (.ref D) "__getattribute__"=some (some (.builtin "BaseException.__getattribute__"))) (hgt:findIn K (.ref D) "__getattr__"=some none)
 (ha:findIn K (.ref D) "__class__"=some (some (.builtin "object.__class__"))) (hm:mroIn K D (.type "object")=some true) (hb:mroIn K D (.type "BaseException")=some true)
 (hq:Q (some (.ref D)) ⟨h,g,d,t+1,os⟩):wpAny (model prog w) A (getAttr? (.ref x) "__class__") Q E ⟨h,g,d,t,os⟩:=by
 have LG:Looks (model prog w) h (typeLookup (.ref D) "__getattribute__") (some (.builtin "BaseException.__getattribute__")):=PySem.W.looks_findIn X hga
 have LH:Looks (model prog w) h (typeLookup (.ref D) "__getattr__") none:=PySem.W.looks_findIn X hgt
 have hx2:(Value.builtin "BaseException.__getattribute__"==Value.builtin "object.__getattribute__")=false:=by decide+kernel
 have hx1:(onTheHeap (Value.ref D)&&Value.builtin "BaseException.__getattribute__"==Value.builtin "object.__getattribute__")=false:=by rw[hx2];rfl
 have f3:=PySem.F.excAttr_ValueError.ga.bind (.ref x)
 unfold getAttr? getAttrBy?
 repeat (any_goals (first | assumption | (with_reducible refine wpAny_loadPart_at hx ?_;rw[hc]) | with_reducible refine LG.at ?_ | with_reducible refine LH.at ?_ | wp_step))
 refine fe X hx hc ha hm hb ?_
 repeat (any_goals (first | assumption | wp_step))
structure ExcC (K:Frag) (D:Addr):Prop where
 ga:findIn K (.ref D) "__getattribute__"=some (some (.builtin "BaseException.__getattribute__"))
 gt:findIn K (.ref D) "__getattr__"=some none
 ca:findIn K (.ref D) "__class__"=some (some (.builtin "object.__class__"))
 mo:mroIn K D (.type "object")=some true
 mb:mroIn K D (.type "BaseException")=some true
 cl:(PySem.W.clsIn K D).isSome=true
theorem iZ (c:ExcC K D):PySem.W.KitX K (.ref x) (.ref D) (fun h=>∃ox,h.get? x=some ox∧ox.cls= .ref D) where
 ty:=fun _ _ _ ⟨_,hx,hc⟩=>hc▸(Looks.ld hx).andThen .now
 it:=fun _ _ X _=>by
  obtain⟨cdD,hcD⟩:=Option.isSome_iff_exists.mp c.cl
  unfold PySem.W.clsIn at hcD
  split at hcD
  ·rename_i c' d' cd' sl' ho
   intro A' Q' E' s' k q
   unfold isType loadHead
   exact wpAny_bind (wpAny_loadPart (k _ _ (X _ _ ho)) (wpAny_pure q))
  ·cases hcD
 ne:=fun h tp dd its n sl X htp=>by
  obtain⟨cdD,hcD⟩:=Option.isSome_iff_exists.mp c.cl
  refine Bool.eq_false_iff.mpr fun q=>?_
  have e:D=tp:=Value.ref.inj (beq_iff_eq.mp q)
  subst e
  unfold PySem.W.clsIn at hcD
  split at hcD
  ·rename_i c' d' cd' sl' ho
   have z:=(X _ _ ho).symm.trans htp
   cases z
  ·cases hcD
 ca:=fun {_ _ _ _ _ s} X ⟨_,hx,hc⟩ k=>by
  obtain⟨hh,g,d,t,os⟩:=s
  exact fc X hx hc c.ga c.gt c.ca c.mo c.mb k
end
section
variable {X : Cx} {Xw : Nat → Hp → Prop} {e e2 : Expr} {δs : DA} {pos p : Pos}
def qM (K:Frag):List V→Hp→VK→Prop:=fun xs H Q=>∃ea C D b,xs=[.ref ea, .ref D]∧H ea=some (ExO ea C)∧ExcC K C∧PySem.W.kitOne K (.ref C) (.ref D)=some b∧Q (.bl b) H
def ql (K:Frag):List V→Hp→VK→Prop:=fun xs H Q=>∃ea C T b,xs=[.ref ea, .ty T]∧H ea=some (ExO ea C)∧ExcC K C∧PySem.W.kitOne K (.ref C) (.type T)=some b∧Q (.bl b) H
theorem lF:CallR X (.builtin "isinstance") (qM X.K):=by
 intro pins s σ H xs us Q I r h
 obtain⟨ea,C,D,b,rfl,hH,hc,e,q⟩:=h
 obtain⟨u,w',rfl,r1,r2⟩:=vals2 r
 cases (show u=_ from r1)
 cases (show w'=_ from r2)
 obtain⟨hx,_,_⟩:=I.hok ea _ hH
 exact PySem.W.kia_one (iZ hc) I.kIn hx e (fun z=>nomatch z) fun tk=>⟨.bl b,H,I.tok tk,rfl,q⟩
theorem kJ:CallR X (.builtin "isinstance") (ql X.K):=by
 intro pins s σ H xs us Q I r h
 obtain⟨ea,C,D,b,rfl,hH,hc,e,q⟩:=h
 obtain⟨u,w',rfl,r1,r2⟩:=vals2 r
 cases (show u=_ from r1)
 cases (show w'=_ from r2)
 obtain⟨hx,_,_⟩:=I.hok ea _ hH
 exact PySem.W.kia_one (iZ hc) I.kIn hx e (fun z=>nomatch z) fun tk=>⟨.bl b,H,I.tok tk,rfl,q⟩
def eQ (K:Frag) (cs:List Addr):List D→M D
 |[.exc C, .raw (.ref D)]=>if C∈cs then(match PySem.W.kitOne K (.ref C) (.ref D) with | some b=>M.ret (.bl b) | none=>M.stuck) else M.stuck
 |[.exc C, .raw (.ty T)]=>if C∈cs then(match PySem.W.kitOne K (.ref C) (.type T) with | some b=>M.ret (.bl b) | none=>M.stuck) else M.stuck
 |_=>M.stuck
theorem h8 {cs:List Addr}(hcs:∀C∈cs,ExcC X.K C) (hg:Gl X "isinstance") (hm:X.mg "isinstance"=none) (hb:bootBuiltins "isinstance"=some (.builtin "isinstance")) (ha:PDA X Xw [e,e2] δs) (he:starEach [e,e2] X.env=(false,eval e X.env)::starEach [e2] X.env:=by rfl)
 (hpl:(backTo pos (starEach [e2] X.env)).any (·.1)=false:=by rfl):PD X Xw (.Call (.Name "isinstance" p) [e,e2] [] pos) (dA (eQ X.K cs) δs):=
 dG (lF.or kJ) (fun Xw F H vs ds Q s h w=>by
  unfold eQ at w
  split at w
  ·rename_i C D
   obtain⟨v,v',rfl,h1,h2⟩:=h.two
   cases (show _=_ from h2)
   obtain⟨ea,rfl,h3⟩:=h1
   split at w
   ·rename_i hC
    split at w
    ·rename_i b hb
     exact .inl ⟨ea,C,D,b,rfl,s _ _ h3,hcs C hC,hb,WP.now w s rfl⟩
    ·exact w.elim
   ·exact w.elim
  ·rename_i C T
   obtain⟨v,v',rfl,h1,h2⟩:=h.two
   cases (show _=_ from h2)
   obtain⟨ea,rfl,h3⟩:=h1
   split at w
   ·rename_i hC
    split at w
    ·rename_i b hb
     exact .inr ⟨ea,C,T,b,rfl,s _ _ h3,hcs C hC,hb,WP.now w s rfl⟩
    ·exact w.elim
   ·exact w.elim
  ·exact w.elim) hg hm hb ha (by decide) (by decide) he hpl
end
end L3
namespace L3
open PySem PySem.Spec L2 SeqAt HT
open PyProof.Rows hiding St
open PySem.W (Frag Looks findIn mroIn)
theorem gX {ea C:Addr}{h1 h2:Heap}(x:j3 h1 ea C) (k:∀o,h1.get? ea=some o→h2.get? ea=some o):j3 h2 ea C:=
 let ⟨ox,a,b⟩:=x
 ⟨ox,k ox a,b⟩
def mK (τ:DS) (hd:Nat→M D):DS:=fun ρ=>match τ ρ with
 |some (.ex n)=>hd n>>=fun d=>M.ret (.rt d)
 |r=>r
abbrev fm (X:Cx) (pn:List (Addr×Obj)) (E:Value→Shared→Prop):Cx:={X with pn:=pn,xe:=E}
abbrev cX (X:Cx) (ea:Addr) (E:Value→Shared→Prop):Cx:={X with A:=X.A.mark (some (.ref ea)),calm:=false,xe:=E}
section
variable {X : Cx} {pins pn : List (Addr × Obj)} {σ : St} {H : Hp} {s : Shared} {E : Value → Shared → Prop} {ea : Addr}
theorem lZ (ok:X.Ok):(fm X pn E).Ok:=⟨ok.mod,ok.kind,ok.glob,ok.blt,ok.above,ok.inj,ok.has,ok.cab,ok.hd,ok.frames,ok.stk,ok.exf,ok.bs,ok.bsz,ok.noex,ok.exfs,ok.funs,ok.frf⟩
theorem kR (I:Inv X pins σ H s) (hp:X.pn=[]):Inv (fm X pins E) [] σ H s:=
 ⟨lZ I.ok,I.os,I.bare,I.base,I.loc,I.cell,I.free,I.freeC,fun p q=>I.pin p (by rw[hp];rw[List.append_nil] at q;exact q),I.hok,I.len⟩
theorem k_ (ok:(fm X pn E).Ok):X.Ok:=⟨ok.mod,ok.kind,ok.glob,ok.blt,ok.above,ok.inj,ok.has,ok.cab,ok.hd,ok.frames,ok.stk,ok.exf,ok.bs,ok.bsz,ok.noex,ok.exfs,ok.funs,ok.frf⟩
theorem bV {pins':List (Addr×Obj)}(I:Inv (fm X pins E) pins' σ H s) (hp:X.pn=[]):Inv X pins σ H s:=
 ⟨k_ I.ok,I.os,I.bare,I.base,I.loc,I.cell,I.free,I.freeC,fun p q=>I.pin p (by rw[hp] at q;exact List.mem_append_left _ q),I.hok,I.len⟩
theorem cP (I:Inv X pins σ H s):Inv (cX X ea E) pins σ H s:=
 ⟨⟨I.ok.mod,I.ok.kind,I.ok.glob,I.ok.blt,I.ok.above,I.ok.inj,I.ok.has,I.ok.cab,fun z=>(by cases z),I.ok.frames,I.ok.stk,I.ok.exf,I.ok.bs,I.ok.bsz,I.ok.noex,I.ok.exfs,I.ok.funs,I.ok.frf⟩,I.os,I.bare,I.base,I.loc,I.cell,I.free,I.freeC,I.pin,I.hok,I.len⟩
theorem gW (I:Inv (cX X ea E) pins σ H s) (hd:X.calm=true→X.A.handled=none) (hfr:X.A.frames=some X.stack):Inv X pins σ H s:=
 ⟨⟨I.ok.mod,I.ok.kind,I.ok.glob,I.ok.blt,I.ok.above,I.ok.inj,I.ok.has,I.ok.cab,hd,hfr,I.ok.stk,I.ok.exf,I.ok.bs,I.ok.bsz,I.ok.noex,I.ok.exfs,I.ok.funs,I.ok.frf⟩,I.os,I.bare,I.base,I.loc,I.cell,I.free,I.freeC,I.pin,I.hok,I.len⟩
theorem jN {h':Heap}{m':Str→Option Value}{tk:Nat}(I:Inv X pins σ H s) (hsb:Heap.SameBut X.env.locals s.heap h') (hn:h'.Ns X.env.locals m'):Inv X pins (σ.map fun _=>none) H {s with heap:=h',toks:=tk}:=by
 have neL:∀b o,X.s₀.heap.get? b=some o→b≠X.env.locals:=fun b o e=>Nat.ne_of_lt (Nat.lt_of_lt_of_le (Heap.lt_size e) I.ok.above)
 refine⟨I.ok,I.os,I.bare,⟨fun b o e n hb hx=>?_,fun b o e n hb hx=>?_,I.base.free,fun b o e hx=>?_,I.base.tups,I.base.frzs,I.base.tbls⟩,⟨m',hn,fun i x v h1 h2 h3=>?_⟩,fun x c e=>?_,I.free,I.freeC,fun p hp=>?_,jo I.hok hsb I.free,by rw[List.length_map];exact I.len⟩
 ·exact(hsb.2 b (neL b o e)).trans (I.base.keep b o e n hb hx)
 ·obtain⟨sl,q⟩:=I.base.slot b o e n hb hx
  exact⟨sl,(hsb.2 b (neL b o e)).trans q⟩
 ·obtain⟨o',q⟩:=I.base.there b o e hx
  exact⟨o',(hsb.2 b (neL b o e)).trans q⟩
 ·rw[List.getElem?_map] at h2
  cases q:σ[i]? with
  |none=>rw[q] at h2;cases h2
  |some z=>rw[q] at h2;cases h2
 ·obtain⟨v,q⟩:=I.cell x c e
  exact⟨v,q.sameBut hsb (I.cne x c e)⟩
 ·obtain⟨e,n,ne,nf,d⟩:=I.pin p hp
  exact⟨(hsb.2 p.1 ne).trans e,n,ne,nf,d⟩
theorem kT {a:Addr}{o:HO}(I:Inv X pins σ H s) (hn:H a=none) (h0:X.s₀.heap.get? a=none) (hl:a≠X.env.locals) (hc:∀x c,X.env.cells.lookup x=some c→c≠a) (hp:∀p∈X.pn++pins,p.1≠a) (ho:ObjOk X.prog X.w (upd H a o) s.heap a o):
 Inv X pins σ (upd H a o) s:=by
 have ne:∀b u,H b=some u→b≠a:=fun b u e=>aM e hn
 have ne0:∀b u,X.s₀.heap.get? b=some u→b≠a:=fun b u e z=>by rw[z,h0] at e;cases e
 refine⟨I.ok,I.os,I.bare,⟨I.base.keep,I.base.slot,fun b u e n hx=>?_,I.base.there,fun b xs e=>?_,fun b u xs e=>?_,fun b ps e=>?_⟩,I.loc,I.cell,?_,fun x c e=>?_,fun p q=>?_,fun b u e=>?_,I.len⟩
 ·rw[aj (ne0 b u e)];exact I.base.free b u e n hx
 ·have q:=I.base.tups b xs e
  rw[aj (ne b _ q)];exact q
 ·have q:=I.base.frzs b u xs e
  rw[aj (ne b _ q)];exact q
 ·obtain⟨more,q⟩:=I.base.tbls b ps e
  exact⟨more,by rw[aj (ne b _ q)];exact q⟩
 ·rw[aj (Ne.symm hl)];exact I.free
 ·rw[aj (hc x c e)];exact I.freeC x c e
 ·obtain⟨e,n,r1,r2,d⟩:=I.pin p q
  exact⟨e,by rw[aj (hp p q)];exact n,r1,r2,d⟩
 ·by_cases hb:b=a
  ·subst hb;rw[au] at e;cases e;exact ho
  ·rw[aj hb] at e
   exact(I.hok b u e).stay (fun _ _ _ q=>q) (fun c q=>by rw[aj (ne c _ q)];exact q) fun c xs q=>by rw[aj (ne c _ q)];exact q
end
section
variable {P : Program} {w : World} {K : PySem.W.Frag} {mg : Str → Option Value} {base : Heap} {N : List Str} {qual : Str} {scope : Scope} {f : Addr} {cd : Value} {A : Around} {outer : List Env} {s₀ : Shared} {H₀ : Hp} {E : XK} {cv : Nat → Value}
theorem nY {Xw:Nat→Hp→Prop}{body suite:List Stmt}{b₀:Stmt}{x n:Str}{np hpos pos:Pos}{i:Nat}{Cp:Addr}{τb τh:DS}{hd:Nat→M D}{cA:Nat→Addr}
 (hcv:∀k,cv k= .ref (cA k)) (hN:(av (CX1 P w cv) P w K mg base N qual scope f cd A outer s₀ H₀ E).N.Nodup) (hi:(av (CX1 P w cv) P w K mg base N qual scope f cd A outer s₀ H₀ E).N[i]? =some n) (hloc:(av (CX1 P w cv) P w K mg base N qual scope f cd A outer s₀ H₀ E).env.scope.names.lookup n=some .local) (hg:Gl (av (CX1 P w cv) P w K mg base N qual scope f cd A outer s₀ H₀ E) x) (hm:mg x=some (.ref Cp)) (hex:∀k,PySem.W.exmOne K (cv k) (.ref Cp)=some true)
 (hb:∀(pn:List (Addr×Obj)) (Ec:Value→Shared→Prop) (Xw':Nat→Hp→Prop),cK (CX1 P w cv) (fm (av (CX1 P w cv) P w K mg base N qual scope f cd A outer s₀ H₀ E) pn Ec) (EX cv Xw')→PSDs (fm (av (CX1 P w cv) P w K mg base N qual scope f cd A outer s₀ H₀ E) pn Ec) Xw' body τb)
 (hs:∀ea,PSDs (cX (av (CX1 P w cv) P w K mg base N qual scope f cd A outer s₀ H₀ E) ea fun _ _=>False) (fun _ _=>False) (b₀::suite) τh) (hh:∀(k:Nat) (ρ:Rho),ρ.length=N.length→ρ[i]? =some (some (.fz (.exc (cA k))))→τh ρ=(hd k>>=fun d=>M.ret (.rt d)))
 (hdb:(x==("__debug__":Str))=false:=by decide):
 PSD (av (CX1 P w cv) P w K mg base N qual scope f cd A outer s₀ H₀ E) Xw (.Try body [.ExceptHandler (some (.Name x np)) (some n) (b₀::suite) hpos] [] [] pos) (mK τb fun k=>noex (hd k)):=fun G₀ J₀ pins s σ H D I ⟨F,ρ,S,wq⟩=>by
 have hstk:frs (av (CX1 P w cv) P w K mg base N qual scope f cd A outer s₀ H₀ E).stack=s₀.heap.objs.size::frs outer:=rfl
 have pass:cK (CX1 P w cv) (fm (av (CX1 P w cv) P w K mg base N qual scope f cd A outer s₀ H₀ E) pins fun e s₁=>wpAny (model P w) (av (CX1 P w cv) P w K mg base N qual scope f cd A outer s₀ H₀ E).A (noteFrame e (av (CX1 P w cv) P w K mg base N qual scope f cd A outer s₀ H₀ E).env) (fun _ s₂=>wpAny (model P w) (av (CX1 P w cv) P w K mg base N qual scope f cd A outer s₀ H₀ E).A (setFlight e none) (fun _ s₃=>wpAny (model P w) (av (CX1 P w cv) P w K mg base N qual scope f cd A outer s₀ H₀ E).A (handleBy e (av (CX1 P w cv) P w K mg base N qual scope f cd A outer s₀ H₀ E).env [.ExceptHandler (some (.Name x np)) (some n) (b₀::suite) hpos]) (SP (av (CX1 P w cv) P w K mg base N qual scope f cd A outer s₀ H₀ E) pins D) (av (CX1 P w cv) P w K mg base N qual scope f cd A outer s₀ H₀ E).xe s₃) (av (CX1 P w cv) P w K mg base N qual scope f cd A outer s₀ H₀ E).xe s₂) (av (CX1 P w cv) P w K mg base N qual scope f cd A outer s₀ H₀ E).xe s₁)
  (EX cv fun k H'=>∃F',Ext G₀ J₀ F' H'∧WPS K Xw G₀ J₀ (noex (hd k)>>=fun d=>M.ret (.rt d)) D):=by
  intro pins' σ' H1 s1 e s' I1 ⟨ea,nn,a0,B,H',he,hos,hgn,hok,un,fly,hB,m,hmn,F',ext',w'⟩
  subst he
  have hfr:∀b∈frs (av (CX1 P w cv) P w K mg base N qual scope f cd A outer s₀ H₀ E).stack,H' b=none:=fun b hb=>by
   obtain⟨_,o,ho,_⟩:=I1.stack.mem hb
   exact un.free b o ho (I1.stkFree b hb) (by simp)
  have enf:ea∉frs (av (CX1 P w cv) P w K mg base N qual scope f cd A outer s₀ H₀ E).stack:=fun hb=>by
   obtain⟨_,o,ho,hd'⟩:=fly.2.2.1.mem hb
   obtain⟨oe,vs,q1,_,q2,_⟩:=fly.first
   rw[q1] at ho
   cases ho
   exact hd' vs q2
  have hBe:B.get? ea=none:=fly.2.1
  have hnew:s1.heap.get? ea=none:=by
   cases q:s1.heap.get? ea with
   |none=>rfl
   |some o=>
    obtain⟨ob,h1,_⟩:=fly.there
    have:=hB ea ob h1 (.inr (by rw[q];rfl)) enf
    rw[hBe] at this
    cases this
  have hHe:H' ea=none:=by
   cases q:H' ea with
   |none=>rfl
   |some u=>
    obtain⟨ob,h1,_⟩:=fly.there
    have:=hB ea ob h1 (.inl (by rw[q];exact fun z=>nomatch z)) enf
    rw[hBe] at this
    cases this
  have invAt:∀h₅,B.StaysIn h₅→s'.heap.UpToSlots h₅→Inv (av (CX1 P w cv) P w K mg base N qual scope f cd A outer s₀ H₀ E) pins σ' H' {s' with heap:=h₅}:=fun h₅ st ups=>by
   have keepB:∀b o,s'.heap.get? b=some o→b∉frs (av (CX1 P w cv) P w K mg base N qual scope f cd A outer s₀ H₀ E).stack→(H' b≠none∨(s1.heap.get? b).isSome=true)→h₅.get? b=some o:=fun b o e hb hc=>st b o (hB b o e hc hb)
   have un5:Un (frs (av (CX1 P w cv) P w K mg base N qual scope f cd A outer s₀ H₀ E).stack) [] H1 H' s1.heap h₅:=iC un (fun b o e hb hc=>keepB b o e hb hc) (fun b o e hb=>by
    obtain⟨_,o',ho',hd'⟩:=fly.2.2.1.mem hb
    rw[e] at ho'
    cases ho'
    exact ups b o e hd')
   have hok5:HOk P w H' h₅:=fk hok hfr fun b o e hb hc=>keepB b o e hb (.inl hc)
   exact bV (I1.call' (s':={s' with heap:=h₅}) (ch:=[]) hos un5 hok5 hgn (fun b hb=>absurd hb (by simp))) rfl
  show wpAny (model P w) (av (CX1 P w cv) P w K mg base N qual scope f cd A outer s₀ H₀ E).A (noteFrame (.ref ea) (av (CX1 P w cv) P w K mg base N qual scope f cd A outer s₀ H₀ E).env) _ _ s'
  refine wpAny_looks_onW (base:=B) (outer:=outer) (L:=s₀.heap.objs.size) I1.ok.frames rfl fly fun h₄ held₄ ups₄=>?_
  refine wpAny_landsW held₄ fun h₅ fly₅ ups₅=>?_
  have J5:=invAt h₅ fly₅.1 (ups₄.trans ups₅)
  have M5:Inv (cX (av (CX1 P w cv) P w K mg base N qual scope f cd A outer s₀ H₀ E) ea fun _ _=>False) pins σ' H' {s' with heap:=h₅}:=cP J5
  refine wpAny_handleBy_cons (codeAny_handlers_test (eV M5 hg hm ?_ hdb)) (by intro q;cases q)
  have LT:Looks (model P w) h₅ (typeOf (.ref ea)) (cv nn):=by
   obtain⟨ob,h1,h2⟩:=fly₅.there
   exact h2▸(Looks.ld h1).andThen .now
  refine(PySem.W.exm_one M5.kIn LT (hex nn)).here ?_
  refine codeAny_handlers_suite_as ?_
  refine lands_againW fly₅ fun h₆ fly₆ ups₆=>?_
  have J6:=invAt h₆ fly₆.1 ((ups₄.trans ups₅).trans ups₆)
  have M6:Inv (cX (av (CX1 P w cv) P w K mg base N qual scope f cd A outer s₀ H₀ E) ea fun _ _=>False) pins σ' H' {s' with heap:=h₆}:=cP J6
  have nloc:ea≠(av (CX1 P w cv) P w K mg base N qual scope f cd A outer s₀ H₀ E).env.locals:=fun z=>enf (by rw[hstk,z];exact List.mem_cons_self)
  have ncell:∀y c,(av (CX1 P w cv) P w K mg base N qual scope f cd A outer s₀ H₀ E).env.cells.lookup y=some c→c≠ea:=fun y c q z=>by
   obtain⟨v,o,ho,_⟩:=I1.cell y c q
   rw[z,hnew] at ho
   cases ho
  refine ec J6 hN hi (.inl hloc) (v:= .ref ea) rfl (fun s7 I7 ⟨a,sb,ha⟩=>?_) (.inr hloc)
  have hea7:j3 s7.heap ea (cA nn):=by
   obtain⟨ob,h1,h2⟩:=fly₆.there
   refine⟨ob,(sb.2 ea ?_).trans h1,by rw[h2,hcv]⟩
   rcases ha with z | z
   ·rw[z];exact nloc
   ·exact Ne.symm (ncell n a z)
  have h0:s₀.heap.get? ea=none:=by
   cases q:s₀.heap.get? ea with
   |none=>rfl
   |some o=>
    obtain⟨o',q'⟩:=I1.base.there ea o q (fun z=>absurd (show ea∈([]:List Addr) from z) (by simp))
    rw[hnew] at q'
    cases q'
  have I8:Inv (cX (av (CX1 P w cv) P w K mg base N qual scope f cd A outer s₀ H₀ E) ea fun _ _=>False) pins (σ'.set i (some (.ref ea))) (upd H' ea (ExO ea (cA nn))) s7:=
   kT (cP I7) hHe h0 nloc ncell (fun p q z=>by
    have hp:=I1.pin p (List.mem_append_left _ (show p∈pins from q))
    rw[z,hnew] at hp
    cases hp.1) ⟨hea7,(by obtain⟨ox,h1,_⟩:=hea7;exact⟨ox,h1⟩),fun h1 h2 hx k=>gX hx k⟩
  have hlen:σ'.length=N.length:=I1.len
  have hil:i<σ'.length:=by rw[hlen];exact(List.getElem?_eq_some_iff.mp hi).1
  have eL:=Ext.lay (o:=ExO ea (cA nn)) ext'.fh hHe
  have hρ:((List.replicate σ'.length none).set i (some (Sl.fz (.exc (cA nn)))))[i]? =some (some (.fz (.exc (cA nn)))):=List.getElem?_set_self (by simpa using hil)
  have only:∀(j:Nat) (sl:Sl),((List.replicate σ'.length (none:Option Sl)).set i (some (Sl.fz (.exc (cA nn)))))[j]? =some (some sl)→j=i∧sl= .fz (.exc (cA nn)):=fun j sl e=>by
   by_cases hj:j=i
   ·subst hj
    rw[hρ] at e
    cases e
    exact⟨rfl,rfl⟩
   ·rw[List.getElem?_set_ne (Ne.symm hj),List.getElem?_replicate] at e
    split at e<;>cases e
  have S8:StOk K G₀ J₀ (upd F' ea (ExO ea (cA nn))) (upd H' ea (ExO ea (cA nn))) (σ'.set i (some (.ref ea))) ((List.replicate σ'.length none).set i (some (.fz (.exc (cA nn))))):=by
   refine⟨ext'.trans eL,⟨eL.fh,fun j sl e=>?_⟩,by simp,fun j c a e=>?_,fun j k c c' a e=>?_⟩
   ·obtain⟨rfl,rfl⟩:=only j sl e
    exact⟨.ref ea,List.getElem?_set_self hil,ea,rfl,au⟩
   ·obtain⟨_,z⟩:=only j _ e
    cases z
   ·obtain⟨_,z⟩:=only j _ e
    cases z
  have hcm:cA m=cA nn:=by
   have:=hmn
   rw[hcv,hcv] at this
   exact(Value.ref.inj this).symm
  have w8:WPS K (fun _ _=>False) G₀ J₀ (τh ((List.replicate σ'.length none).set i (some (.fz (.exc (cA nn)))))) {nx:=fun _ _=>False,rt:=D.rt}:=by
   rw[hh m _ (by simpa using hlen) (by rw[hcm];exact hρ)]
   rcases(hd m).cs with q | ⟨k,q⟩ | ⟨d,q⟩
   ·rw[q] at w';exact w'.elim
   ·rw[q] at w';exact w'.elim
   ·rw[q] at w'⊢;exact w'
  refine wpAny_mono (hs ea G₀ J₀ pins s7 _ _ {nx:=fun _ _=>False,rt:=D.rt} I8 ⟨_,_,S8,w8⟩) (fun fl s8 q8=>?_) fun _ _ z=>z.elim
  cases fl with
  |next=>obtain⟨_,_,_,z⟩:=q8;exact z.elim
  |brk=>obtain⟨_,_,_,z⟩:=q8;exact z.elim
  |cont=>obtain⟨_,_,_,z⟩:=q8;exact z.elim
  |ret u=>
   obtain⟨v,σ9,H9,I9,rv,q9⟩:=q8
   have I10:Inv (av (CX1 P w cv) P w K mg base N qual scope f cd A outer s₀ H₀ E) pins σ9 H9 s8:=gW I9 J5.ok.hd J5.ok.frames
   obtain⟨mm,hns,_⟩:=I10.loc
   exact wpAny_nameGoes hloc hns (by rw[show (av (CX1 P w cv) P w K mg base N qual scope f cd A outer s₀ H₀ E).env.scope.kind= .function from I10.ok.kind];rfl) fun h' m' hn' hsb=>⟨v,_,H9,jN I10 hsb hn',rv,q9⟩
 have wb:WPS K (fun k H'=>∃F',Ext G₀ J₀ F' H'∧WPS K Xw G₀ J₀ (noex (hd k)>>=fun d=>M.ret (.rt d)) D) G₀ J₀ (τb ρ) D:=by
  unfold mK at wq
  match τb ρ,wq with
  |none,wq=>exact wq
  |some (.ok (.nx ρ')),wq=>exact wq
  |some (.ok (.rt d)),wq=>exact wq
  |some (.ex k),wq=>exact fun F' H' e=>⟨F',e,wq⟩
 refine wpAny_Try_except (wpAny_mono (hb pins _ _ pass G₀ J₀ [] s σ H D (kR I rfl) ⟨F,ρ,S,wb⟩) (fun fl s1 q1=>?_) fun _ _ z=>z)
 cases fl with
 |next=>obtain⟨σ1,H1,I1,q⟩:=q1;exact wpAny_execs_nil ⟨σ1,H1,bV I1 rfl,q⟩
 |brk=>obtain⟨σ1,H1,I1,q⟩:=q1;exact⟨σ1,H1,bV I1 rfl,q⟩
 |cont=>obtain⟨σ1,H1,I1,q⟩:=q1;exact⟨σ1,H1,bV I1 rfl,q⟩
 |ret u=>obtain⟨v,σ1,H1,I1,r,q⟩:=q1;exact⟨v,σ1,H1,bV I1 rfl,r,q⟩
end
end L3
namespace L3
open PySem PySem.Spec L2 SeqAt HT
open PyProof.Rows hiding St
structure RoomH (k:Nat) (A:Around):Prop where
 dp:A.depth+3*k+5<recursionLimit
 un:A.units+16*k+200<cLine
structure FnOkH (P:Program) (w:World) (K:PySem.W.Frag) (mg:Str→Option Value) (base:Heap) (k:Nat) (f:Addr) (fd:FuncData) (ps:List Str) (sp:Sp):Prop where
 len:∀vs H Q E,sp vs H Q E→vs.length=ps.length
 run:∀(A:Around) (outer:List Env) (s:Shared) (H:Hp) (args:Args) (us:List Value) (vs:List V) (Q:VK) (E:XK),RoomH k A→Env0 P w K mg base A outer s H→BindsTo s fd args (ps.zip us)→Vals vs us→sp vs H Q E→
  codeAny (model P w) A (.call (.ref f) args) (CR CX0 outer P w H s Q E) s
section
variable {P : Program} {w : World} {K : PySem.W.Frag} {mg : Str → Option Value} {base : Heap} {cv : Nat → Value}
end
section
variable {X : Cx} {Xw : Nat → Hp → Prop} {cv : Nat → Value} {k m : Nat} {f : Addr} {fd : FuncData} {ps : List Str} {g : List D → M D} {x : Str} {p pos : Pos} {e : Expr} {es : List Expr} {δs : DA}
end
end L3
namespace L3
open PySem PySem.Spec L2 SeqAt HT
open PyProof.Rows hiding St
def j5 (N:List Str) (osc scope:Scope) (tn:List Str):Bool:=
 decide (scope.kind= .function)&&scope.names.all (fun y=>decide (y.2≠ .cell))&&scope.names.all (fun y=>decide (y.2= .local→scope.names.lookup y.1=some .local))&&
 scope.names.all (fun y=>decide (y.2= .free→(osc.names.lookup y.1=some .cell∨osc.names.lookup y.1=some .free)))&&
 ((b6 tn N).zip N).all (fun p=>decide (scope.names.lookup p.1=none∨(p.1=p.2∧scope.names.lookup p.1=some .free)))
theorem cg {X:Cx}{N:List Str}{osc scope:Scope}{tn:List Str}(hN:X.N=N) (ho:X.env.scope=osc) (h:j5 N osc scope tn=true):CompSc X scope tn:=by
 unfold j5 at h
 simp only[Bool.and_eq_true,List.all_eq_true,decide_eq_true_eq] at h
 obtain⟨⟨⟨⟨h1,h2⟩,h3⟩,h4⟩,h5⟩:=h
 refine⟨h1,h2,h3,fun y hy hf=>?_,?_⟩
 ·have:=h4 y hy hf
  rw[←ho] at this
  exact this
 ·rw[hN]
  exact h5
theorem dP {X:Cx}{x:Str}{px:Pos}{σ:St}(hN:X.N.Nodup) (h0:X.N[0]? =some x) (hloc:X.env.scope.names.lookup x=some .local):lC X (.Name x px) 0 σ:=fun pins s σ' F H d ts v u I fh hd rv q e=>by
 have e:M.ret [d]=M.ret ts:=e
 have e:=cZ e
 subst e
 refine wpAny_assign_Name (jv I hN h0 (.inl hloc) rv (fun s' I'=>⟨[v],?_, .cons q .nil⟩) (.inr hloc))
 have hl:0<σ'.length:=by rw[I.len];exact(List.getElem?_eq_some_iff.mp h0).1
 have:σ'.set 0 (some v)=[v].map some++σ:=by
  cases σ' with
  |nil=>simp at hl
  |cons a r=>
   have hd:r=σ:=by simpa using hd
   subst hd
   rfl
 rw[←this]
 exact I'
theorem jc {P:Program}{w:World}{cv:Nat→Value}{X:Cx}:cK (CX1 P w cv) X (EX cv fun _ _=>False):=fun _ _ _ _ _ _ _ ⟨_,_,_,_,_,_,_,_,_,_,_,_,_,_,z⟩=>z.elim
def cb (K:PySem.W.Frag) (mg:Str→Option Value) (x:Str) (st:Stmt) (f:Addr):Prop:=mg x=some (.ref f)∧∃fd,Fun K x x st f fd
def ar (P:Program) (w:World) (K:PySem.W.Frag) (mg:Str→Option Value) (base:Heap) (cv:Nat→Value) (k:Nat) (x:Str) (m:Nat) (g:List D→M D):Prop:=
 ∃f fd ps,mg x=some (.ref f)∧PySem.W.keepIn K (.ref f)=true∧Binds K fd ps []∧FnOk P w K mg base (CX1 P w cv) k f fd ps (spD K cv m g)
section
variable {X : Cx} {Xw : Nat → Hp → Prop} {cv : Nat → Value} {k m : Nat} {g : List D → M D} {x : Str} {p pos : Pos} {e : Expr} {es : List Expr} {δs : DA}
def az (m:Nat) (g:List D→M D) (δs:DA):DE:=fun ρ=>δs ρ>>=fun ds=>if ds.length=m then g ds else M.stuck
theorem bY (F:ar X.prog X.w X.K X.mg X.base cv k x m g) (hr:Room k X.A) (hg:Gl X x) (hx:cK (CX1 X.prog X.w cv) X (EX cv Xw))
 (ha:PDA X Xw (e::es) δs) (hl:(e::es).length=m) (hdb:(x==("__debug__":Str))=false:=by decide) (he:starEach (e::es) X.env=(false,eval e X.env)::starEach es X.env:=by rfl) (hpl:(backTo pos (starEach es X.env)).any (·.1)=false:=by rfl):
 PD X Xw (.Call (.Name x p) (e::es) [] pos) (az m g δs):=by
 obtain⟨f,fd,ps,h1,h2,h3,h4⟩:=F
 exact nI h4 hr hg h1 h2 h3 hx ha hl hdb he hpl
end
theorem aQ {P:Program}{w:World}{K:PySem.W.Frag}{mg:Str→Option Value}{base:Heap}{cv:Nat→Value}{k:Nat}{x:Str}{st:Stmt}{f:Addr}{N ps:List Str}{τ:DS}(T:cb K mg x st f) (S:FnScope N ps (af st))
 (hbi:∀(kV doc pm:Value) (an:Option Addr) (cdv ct:Value) (us:List Value),us.length=ps.length→bindArgs (PySem.W.fnOf x x (aI st) (aq st) (af st) .none kV doc pm an cdv ct) ⟨us,[]⟩=pure (ps.zip us))
 (hbody:∀(cdv:Value) (A:Around) (outer:List Env) (s:Shared) (H:Hp) (E:XK),Room k (A.deeper (envOfC x (af st) s.heap.objs.size f cdv))→
  PSDs (av (CX1 P w cv) P w K mg base N x (af st) f cdv A outer s H E) (fun n H'=>E (cv n) none H') (aq st) τ):ar P w K mg base cv (k+1) x ps.length (bZ N.length τ):=by
 obtain⟨h1,fd,Fn⟩:=T
 exact⟨f,fd,ps,h1,Fn.kp,Fn.binds hbi,p6 Fn S hbody⟩
end L3
namespace L3
open PySem PySem.Spec L2 SeqAt HT
open PyProof.Rows hiding St
section
variable {X : Cx} {Xw : Nat → Hp → Prop} {a e : Expr} {δ : DE} {pos : Pos}
def g6:D→M D
 | .int i=>M.ret (.int (-i))
 |_=>M.stuck
theorem fC (ha:PD X Xw a δ):PD X Xw (.UnaryOp .USub a pos) (d1 g6 δ):=PE.weak (qe pX ha) fun σ H Q ⟨F,ρ,s,w⟩=>by
 refine⟨F,ρ,s,WP.mono (WP.bind w) fun v H1 ⟨F1,d,e1,q,w1⟩=>?_⟩
 cases d with
 |int i=>
  have q:v= .int i:=q
  subst q
  exact⟨i,rfl,WP.now w1 e1.fh rfl⟩
 |_=>exact w1.elim
end
end L3
namespace L3
open PySem PySem.Spec L2 SeqAt HT
open PyProof.Rows hiding St
section
variable {X : Cx} {Xw : Nat → Hp → Prop} {pos : Pos}
theorem nL {x z:Str}(hg:Gl X x) (h:∃t,X.mg x=some (.str z t)) (hz:z.length≤lim) (hdb:(x==("__debug__":Str))=false:=by decide):PD X Xw (.Name x pos) (dC (.str z)):=by
 obtain⟨t,h⟩:=h
 exact hZ (v:= .str z) hg h ⟨t,rfl⟩ (fun _=>⟨rfl,hz⟩) hdb
theorem kj {x:Str}{i:Int}(hg:Gl X x) (h:∃t,X.mg x=some (.int i t)) (hdb:(x==("__debug__":Str))=false:=by decide):PD X Xw (.Name x pos) (dC (.int i)):=by
 obtain⟨t,h⟩:=h
 exact hZ (v:= .int i) hg h ⟨t,rfl⟩ (fun _=>rfl) hdb
theorem g_ {x:Str}{a:Addr}(hg:Gl X x) (h:X.mg x=some (.ref a)) (hdb:(x==("__debug__":Str))=false:=by decide):PD X Xw (.Name x pos) (dC (.raw (.ref a))):=
 hZ (v:= .ref a) hg h rfl (fun _=>rfl) hdb
end
structure Box (p:Prop):Prop where
 out:p
section
variable {X : Cx} {Xw : Nat → Hp → Prop} {a : Expr} {δa : DE} {pos : Pos}
theorem bB {st:Stmt}{rest:List Stmt}{τ τ':DS}(h1:Box (PSD X Xw st τ)) (h2:Box (PSDs X Xw rest τ')):Box (PSDs X Xw (st::rest) (aL τ τ')):=⟨ay h1.out h2.out⟩
theorem oU {st:Stmt}{τ:DS}(h1:Box (PSD X Xw st τ)):Box (PSDs X Xw [st] τ):=⟨ax h1.out⟩
end
end L3
namespace L3
open PySem PySem.Spec L2 SeqAt HT
open PyProof.Rows hiding St
theorem qz {l:PySem.W.OpenLaw}{n k:Nat}{q:Program}{loose:List Str}{XP:(Str→Option Value)→Heap→Prop}{YP:World→Heap→Prop}{d:DefRec}{K:Params→PySem.W.Frag}{x:Str}{g:List D→M D}
 (hn:l.most=some n) (hn2:n≤lim) (hdf:d.params.defaults=[]) (hr:Room k callerA)
 (hY:∀(w:World) (h:Heap),YP w h→(K w.params).In h) (hg:∀ns:List Int,ns.length≤n→g [.scr ns]=M.ret (.bl true))
 (F:∀(w:World) (mg:Str→Option Value) (fa:Addr) (h:Heap),(K w.params).In h→h.Ns mainGlobals mg→mg d.name=some (.ref fa)→
  ∃(cv:Nat→Value) (fd:FuncData),(∀(s:Shared) (u:Value),BindsTo s fd ⟨[u],[]⟩ [(x,u)])∧
   ∀base:Heap,(K w.params).In base→base.Ns mainGlobals mg→FnOk l.prog w (K w.params) mg base (CX1 l.prog w cv) k fa fd [x] (spD (K w.params) cv 1 g)):
 PySem.W.WalkO q loose XP YP l.row.toRowW d [] (fun f vs=>PySem.call f vs):=by
 refine Att.attach_call hn hdf fun w s₀ s₁ mg mb fa o pm cd doc a vs ns G Y ho hd hcd hmg hobj hints hlen hgs=>?_
 have KX:=hY w _ Y
 obtain⟨cv,fd,hb,hF⟩:=F w mg fa _ KX G.T.g hmg
 refine i1 KX G.T.g G.T.b G.T.builtins G.T.nolimit hgs hobj hints (Nat.le_trans hlen (Nat.le_trans hn2 (Nat.le_of_lt a7))) hr hF hb (fun H hO hS=>?_) fun H e s' z=>?_
 ·refine⟨H,[.scr ns],fun _ _ e=>e,⟨_,_,rfl,⟨a,rfl,hS,Nat.le_trans hlen hn2⟩,rfl⟩,rfl,?_⟩
  rw[hg ns hlen]
  exact fun v H' F' e q=>q
 ·obtain⟨_,_,_,_,_,_,_,_,_,_,_,_,_,_,y⟩:=z
theorem pf {K:PySem.W.Frag}{h:Heap}{mg:Str→Option Value}{x:Str}{C:Addr}{ms:List Value}{id:String}(hK:K.In h) (hG:h.Ns mainGlobals mg) (at':PySem.W.nsIn K mainGlobals x=some (some (.ref C)))
 (qq:PySem.W.excIn K C ms id=true):OwnCls x C ms id mg h:=OwnCls.mk (PySem.W.mg_of hK hG at')<|by
 revert qq
 unfold PySem.W.excIn
 split<;>intro qq
 rotate_left
 ·exact Bool.noConfusion qq
 rename_i dict₁ rec₁ sl₁ found₁
 split at qq
 rotate_left
 ·exact Bool.noConfusion qq
 rename_i C₁ mro₁ v0 v1 v2 v3 id₁ v5 em es
 rw[Bool.and_eq_true,Bool.and_eq_true,Bool.and_eq_true,Bool.and_eq_true,Bool.and_eq_true] at qq
 rcases qq with⟨⟨⟨⟨⟨q1,q2⟩,q3⟩,q4⟩,q5⟩,q6⟩
 have q1:=eq_of_beq q1
 have q2:=eq_of_beq q2
 have q6:=eq_of_beq q6
 have q3:rec₁.hasDel=false:=by
  cases z:rec₁.hasDel
  ·rfl
  ·rw[z] at q3;cases q3
 subst q1 q2
 rcases rec₁ with⟨r1,r2,r3,r4,r5,r6,r7,r8,r9,r10,r11⟩
 have em:r3=_:=em
 have q3:r11=false:=q3
 subst em q3
 have sl₂:sl₁= #[v0,v1,v2,v3,some (.builtin id₁),v5]:=by
  rcases sl₁ with⟨y⟩
  exact congrArg Array.mk es
 subst sl₂
 have n5:=Heap.Ns.of_isNs (PySem.W.isNs_of_in hK q5)
 have n6:=PySem.W.nsMap_none_of_in hK q5 q6
 exact⟨mro₁,r4,r1,r5,r2,r6,r7,r8,r9,r10,dict₁,v0,v1,v2,v3,v5,_,hK _ _ found₁,n5,n6,PySem.W.tail_of_in hK q4⟩
theorem oX {K:PySem.W.Frag}{t c:Value}(h1:PySem.W.subIn K c (.type "BaseException")=some true) (h2:PySem.W.kitOne K t c=some true) (hne:(t==c)=false):PySem.W.exmOne K t c=some true:=by
 unfold PySem.W.exmOne
 unfold PySem.W.kitOne at h2
 rw[hne] at h2
 rw[h1]
 exact h2
end L3
namespace L3
open PySem PySem.Spec L2 SeqAt HT
open PyProof.Rows hiding St
section
variable {prog : Program} {w : World} {A : Around} {E : Value → Shared → Prop} {s : Shared}
end
section
variable {X : Cx} {Xw : Nat → Hp → Prop} {e est : Expr} {te ts : TE} {δ δs : DE} {pos p2 : Pos}
def RvR (X:Cx) (r:V→Hp→VK→Prop):Prop:=
 ∀(pins:List (Addr×Obj)) (s:Shared) (σ:St) (H:Hp) (x:V) (v:Value) (u:Tok) (sl:Addr) (Q:VK),Inv X pins σ H s→RelV x v→s.heap.IsSliceOf sl .none .none (.int (-1) u)→r x H Q→
  ∃T id,typeLookup (.type T) "__getitem__"=pure (some (.builtin id))∧s.TypeIs v T∧wpAny (model X.prog X.w) X.A (getItem v (.ref sl)) (EP X pins σ Q) X.xe s
theorem pB {r:V→Hp→VK→Prop}(hr:RvR X r) (he:PE X e te) (hs:PE X est ts):PE X (.Subscript e (.Slice none none (some est) p2) pos) (fun σ H Q=>te σ H fun x H1=>ts σ H1 fun y H2=>y= .int (-1)∧r x H2 Q):=by
 intro pins s σ H Q I h
 refine Subscript_ (thn (he pins s σ H _ I h) fun v s1 ⟨x,H1,I1,r1,q1⟩=>?_)
 refine wpAny_Slice ?_
 rw[evalPart_none]
 refine wpAny_pure (wpAny_pure ?_)
 rw[evalPart_some]
 refine thn (hs pins s1 σ H1 _ I1 q1) fun vs s3 ⟨y,H3,I3,ry,q3⟩=>?_
 obtain⟨rfl,q3⟩:=q3
 obtain⟨u,rfl⟩:=ry
 have I4:Inv X pins σ H3 {s3 with heap:=s3.heap.push {cls:= .type "slice",data:= .fields #[.none, .none, .int (-1) u]} }:=I3.kept (t':=s3.toks) fun b ob q=>Heap.get?_push_of_some _ q
 obtain⟨T,id,hT,ht,hg⟩:=hr pins {s3 with heap:=s3.heap.push {cls:= .type "slice",data:= .fields #[.none, .none, .int (-1) u]} } σ H3 x v u s3.heap.objs.size Q I4 r1 (Heap.IsSliceOf.new ..) q3
 show wpAny (model X.prog X.w) X.A (subscriptTail e (.Slice none none (some est) p2) v (.ref s3.heap.objs.size)) (EP X pins σ Q) X.xe {s3 with heap:=s3.heap.push {cls:= .type "slice",data:= .fields #[.none, .none, .int (-1) u]} }
 exact tail_any (ops:=[v, .ref s3.heap.objs.size]) ht hT hg (by with_unfolding_all rfl)
variable {o : Expr} {δo : DE} {δl : DA} {apos cpos : Pos}
end
end L3
namespace L3
open PySem PySem.Spec L2 SeqAt HT
open PyProof.Rows hiding St
namespace RV
end RV
section
variable {prog : Program} {w : World} {A : Around} {E : Value → Shared → Prop} {s : Shared}
end
section
variable {X : Cx} {Xw : Nat → Hp → Prop} {tg e : Expr} {es : List Expr} {δ δi : DE} {δs : DA} {pos p : Pos}
end
end L3
namespace L3
open PySem PySem.Spec L2 SeqAt HT
open PyProof.Rows hiding St
section
variable {κ : Type} [DecidableEq κ]
end
section
variable {X : Cx} {Xw : Nat → Hp → Prop} {a b : Expr} {δa δb : DE} {pos : Pos}
end
section
variable {X : Cx} {Xw : Nat → Hp → Prop} {a e : Expr} {δ δk δv : DE} {pos p pos' pos2 apos cpos : Pos} {x : Str} {i : Nat}
end
end L3
namespace L3
open PySem PySem.Spec L2 SeqAt HT
open PyProof.Rows hiding St
section
variable {X : Cx} {Xw : Nat → Hp → Prop} {τ : DS} {tc : DT} {pos : Pos}
end
section
variable {X : Cx} {Xw : Nat → Hp → Prop} {a b : Expr} {δa δb : DE} {pos : Pos}
end
end L3
namespace L3
open PySem PySem.W PyProof.Rows
structure Lt (n:Nat) (b:Nat→Nat→Bool):Prop where
 tr:∀i j k,b i j=true→b j k=true→b i k=true
 asy:∀i j,b i j=true→b j i=false
 tot:∀i j,i<n→j<n→i≠j→b i j=true∨b j i=true
abbrev at' (p:Array Nat) (i:Nat):Nat:=p.getD i 0
structure PN (n:Nat) (p:Array Nat):Prop where
 sz:p.size=n
 lt:∀i,i<n→at' p i<n
 inj:∀i j,i<n→j<n→at' p i=at' p j→i=j
section
variable {n : Nat} {b : Nat → Nat → Bool} (L : Lt n b)
include L
end
section
variable {n : Nat} {b : Nat → Nat → Bool}
variable (L : Lt n b)
include L
end
end L3
namespace L3
open PySem PySem.W PyProof.Rows
section
variable {n : Nat} (hn : 0 < n)
include hn
end
def lS:List Int→List Int→Bool
 |[],[]=>false
 |[],_::_=>true
 |_::_,[]=>false
 |x::xs,y::ys=>if x=y then lS xs ys else decide (x<y)
section
variable {prog : Program} {w : World} {A : Around} {E : Value → Shared → Prop} {s : Shared}
theorem i2 {Q:Bool→Shared→Prop}:∀{us vs:List Value}{xs ys:List Int}(i:Nat) {fin:Bool},IntsAre us xs→IntsAre vs ys→fin=decide (xs.length<ys.length)→Q (lS xs ys) s→KatLex prog w A true fin Q (us.zip vs) i s
 |_,_,_,_,i,_, .nil, .nil,e,h=>by subst e;exact kat_nil h
 |_,_,_,_,i,_, .nil, .cons y t r,e,h=>by subst e;exact kat_nil h
 |_,_,_,_,i,_, .cons x t r, .nil,e,h=>by subst e;exact kat_nil h
 |_,_,_,_,i,_, .cons (vs:=us) (ns:=xs) x t r, .cons (vs:=vs) (ns:=ys) y u r',e,h=>by
  refine kat_cons (wpAny_eqBool_int ?_)
  by_cases q:x=y
  ·subst q
   rw[show (x==x)=true by simp]
   refine kat_yes (i2 (i+1) r r' (by rw[e];simp) ?_)
   unfold lS at h
   rw[if_pos rfl] at h
   exact h
  ·rw[show (x==y)=false by simpa using q]
   unfold lS at h
   rw[if_neg q] at h
   refine kat_no ?_
   by_cases hi:(i==0)=true
   ·rw[hi]
    exact oneLt_int h
   ·rw[show (i==0)=false by simpa using hi]
    exact kat_one _ _ (PyProof.Rows.lt_int h)
def TupsAt (h:Heap):List Value→List (List Int)→Prop
 |[],[]=>True
 |v::vs,k::ks=>(∃a o us m,v= .ref a∧h.get? a=some o∧o.cls= .type "tuple"∧o.data= .seq (List.toArray us) m∧IntsAre us k∧k≠[])∧TupsAt h vs ks
 |_,_=>False
theorem TupsAt.get {h:Heap}:∀{vs:List Value}{ks:List (List Int)}{i:Nat},TupsAt h vs ks→i<vs.length→∃a o us m,vs.getD i Value.none= .ref a∧h.get? a=some o∧o.cls= .type "tuple"∧o.data= .seq (List.toArray us) m∧IntsAre us (ks.getD i [])∧ks.getD i []≠[]
 |v::vs,k::ks,0,t,_=>t.1
 |v::vs,k::ks,i+1,t,hi=>TupsAt.get (i:=i) t.2 (by simpa using hi)
 |[],_,_,_,hi=>by simp at hi
 |_::_,[],_,t,_=>t.elim
theorem TupsAt.keep {h h':Heap}{a:Addr}(k:∀b o,b≠a→h.get? b=some o→h'.get? b=some o) (ha:∀o,h.get? a=some o→o.cls≠ .type "tuple"):∀{vs:List Value}{ks:List (List Int)},TupsAt h vs ks→TupsAt h' vs ks
 |[],[],_=>trivial
 |v::vs,x::ks,⟨⟨b,o,us,m,e1,e2,e3,e4⟩,t⟩=>⟨⟨b,o,us,m,e1,k b o (fun z=>ha o (by rw[←z];exact e2) e3) e2,e3,e4⟩,TupsAt.keep k ha t⟩
 |[],_::_,t=>t.elim
 |_::_,[],t=>t.elim
theorem fo:∀{us:List Value}{xs:List Int},IntsAre us xs→us.length=xs.length
 |_,_, .nil=>rfl
 |_,_, .cons x t r=>by rw[List.length_cons,List.length_cons,fo r]
theorem asked {vs:List Value}{ks:List (List Int)}(t:TupsAt s.heap vs ks) (i j:Nat) (C:Bool→Shared→Prop) (hi:i<vs.length) (hj:j<vs.length) (h:C (lS (ks.getD i []) (ks.getD j [])) s):kas_ask prog w A (tuples' true) vs i j C s:=by
 obtain⟨a,o,us,m,e1,e2,_,e4,e5,_⟩:=t.get hi
 obtain⟨a',o',us',m',e1',e2',_,e4',e5',_⟩:=t.get hj
 unfold kas_ask
 rw[e1,e1']
 refine kat_lt e2 e4 e2' e4' (i2 0 e5 e5' ?_ h)
 rw[List.size_toArray,List.size_toArray,fo e5,fo e5']
end
end L3
namespace L3
open PySem PySem.W PyProof.Rows
section
variable {prog : Program} {w : World} {A : Around} {E : Value → Shared → Prop} {s : Shared}
end
end L3
namespace L3
open PySem
end L3
namespace L3
open PySem PySem.Spec L2 SeqAt HT
open PyProof.Rows hiding St
section
variable {X : Cx} {Xw : Nat → Hp → Prop} {e : Expr} {δs : DA} {pos p : Pos}
end
end L3
namespace L3
open PySem PySem.Spec L2 SeqAt HT
open PyProof.Rows hiding St
section
variable {X : Cx} {Xw : Nat → Hp → Prop} {e : Expr} {δs : DA} {pos p : Pos}
end
end L3
namespace L3
open PySem PySem.Spec L2
open PyProof.Rows hiding St
def orM {α:Type}(a b:M α):M α:=match a with
 |none=>b
 |some r=>some r
def m7 (a b:DA):DA:=fun ρ=>orM (a ρ) (b ρ)
section
variable {X : Cx} {Xw : Nat → Hp → Prop} {e tg : Expr} {es : List Expr} {δ δ' : DE} {δi δi' δs : DA} {τ : DT}
theorem nN (h:PDI X Xw tg e δi) (h':PDI X Xw tg e δi'):PDI X Xw tg e (m7 δi δi'):=fun pins s σ H Q I ⟨F,ρ,S,w⟩=>by
 unfold m7 orM at w
 cases q:δi ρ with
 |none=>rw[q] at w;exact h' pins s σ H Q I ⟨F,ρ,S,w⟩
 |some r=>rw[q] at w;exact h pins s σ H Q I ⟨F,ρ,S,by rw[q];exact w⟩
theorem ll {st:Stmt}:PSD X Xw st (fun _=>M.stuck):=fun F₀ H₀ pins s σ H D I ⟨F,ρ,S,w⟩=>w.elim
end
def fgt:List Nat→Rho→Rho
 |[],ρ=>ρ
 |i::is,ρ=>fgt is (ρ.set i none)
def qa (f:Rho→Rho):Out→M Out
 | .nx ρ=>M.ret (.nx (f ρ))
 | .rt d=>M.ret (.rt d)
def lp (is:List Nat) (τ:DS):DS:=fun ρ=>τ ρ>>=qa (fgt is)
theorem StOk.fgt1 {K:PySem.W.Frag}{F₀ H₀ F H:Hp}{σ:St}{ρ:Rho}(s:StOk K F₀ H₀ F H σ ρ) (i:Nat):StOk K F₀ H₀ F H σ (ρ.set i none):=by
 have get:∀(j:Nat) (sl:Sl),(ρ.set i none)[j]? =some (some sl)→ρ[j]? =some (some sl):=fun j sl e=>by
  by_cases hj:j=i
  ·subst hj
   by_cases hl:j<ρ.length
   ·rw[List.getElem?_set_self hl] at e;cases e
   ·rw[List.getElem?_eq_none (by simpa using hl)] at e;cases e
  ·rw[List.getElem?_set_ne (Ne.symm hj)] at e;exact e
 exact⟨s.ext,⟨s.st.fh,fun j sl e=>s.st.den j sl (get j sl e)⟩,by simp[s.len],fun j c a e e'=>s.own j c a (get j _ e) e',fun j k c c' a e1 e2 e3 e4=>s.sep j k c c' a (get j _ e1) (get k _ e2) e3 e4⟩
theorem StOk.fgt {K:PySem.W.Frag}{F₀ H₀ F H:Hp}{σ:St}:∀(is:List Nat) {ρ:Rho},StOk K F₀ H₀ F H σ ρ→StOk K F₀ H₀ F H σ (L3.fgt is ρ)
 |[],_,s=>s
 |i::is,_,s=>StOk.fgt is (s.fgt1 i)
theorem WPS.fgt {K:PySem.W.Frag}{Xw:Nat→Hp→Prop}{F₀ H₀:Hp}{is:List Nat}{m:M Out}{Dn:Ends}(w:WPS K Xw F₀ H₀ (m>>=qa (L3.fgt is)) Dn):WPS K Xw F₀ H₀ m Dn:=by
 match m,w with
 |none,w=>exact w
 |some (.ok (.nx ρ)),w=>exact fun σ F H s=>w σ F H (s.fgt is)
 |some (.ok (.rt d)),w=>exact w
 |some (.ex n),w=>exact w
section
variable {X : Cx} {Xw : Nat → Hp → Prop} {st : Stmt} {sts : List Stmt} {τ : DS} {is : List Nat}
theorem ji (h:PSDs X Xw sts τ):PSDs X Xw sts (lp is τ):=fun F₀ H₀=>PSs.weak (h F₀ H₀) fun D σ H ⟨F,ρ,s,w⟩=>⟨F,ρ,s,WPS.fgt w⟩
end
def dH (h:Heap) (P:Addr→Prop) [DecidablePred P] (H:Hp):Hp:=fun b=>if P b then(H b).map (gT ((h.get? b).getD {cls:= .none,data:= .fields #[]})) else H b
section
variable {X : Cx} {pins : List (Addr × Obj)} {σ : St} {H : Hp} {s : Shared} {P : Addr → Prop} [DecidablePred P]
def unA (P:Addr→Prop) [DecidablePred P] (H:Hp):Hp:=fun b=>if P b then(match H b with | some (.frz _ u)=>some u | x=>x) else H b
end
mutual
def oy:D→Bool
 | .non=>true
 | .bl _=>true
 | .int _=>true
 | .str _=>true
 | .tup ds=>j9 ds
 | .raw _=>false
 | .exc _=>false
 | .scr _=>false
 | .lst _=>false
 | .dct _ _=>false
 | .dci _ _=>false
def j9:List D→Bool
 |[]=>true
 |d::ds=>oy d&&j9 ds
end
end L3
namespace L3
open PySem PySem.Spec L2
open PyProof.Rows hiding St
def OwnAt (σ:St) (ρ:Rho) (b:Addr):Prop:=∃(i:Nat) (c:C),ρ[i]? =some (some (Sl.ow c))∧σ[i]? =some (some (V.ref b))
section
variable {K : PySem.W.Frag} {F H F' H' : Hp} {σ : St} {ρ : Rho} {h : Heap} {b : Addr}
theorem OwnAt.obj (S:StE K F H σ ρ) (p:OwnAt σ ρ b):F b=none∧∃o,H b=some o∧((∃x,o= .lst x)∨(∃x,o= .dT x)∨∃x,o= .dK x):=by
 obtain⟨i,c,h1,h2⟩:=p
 obtain⟨v,h3,a,o,rfl,h4,h5,h6⟩:=S.den i _ h1
 rw[h3] at h2
 cases h2
 refine⟨h5,o,h4,?_⟩
 cases c with
 |lst ds=>obtain⟨vs,rfl,_⟩:=h6;exact .inl ⟨_,rfl⟩
 |dct ks ds=>obtain⟨vs,rfl,_⟩:=h6;exact .inr (.inl ⟨_,rfl⟩)
 |dci ks ds=>obtain⟨vs,rfl,_⟩:=h6;exact .inr (.inr ⟨_,rfl⟩)
open Classical in
noncomputable def fA (σ:St) (ρ:Rho) (H1 F:Hp):Hp:=fun b=>if OwnAt σ ρ b then H1 b else F b
open Classical in
mutual
theorem lL (S:StE K F H σ ρ) (E:Ext (fA σ ρ (dH h (OwnAt σ ρ) H) F) (dH h (OwnAt σ ρ) H) F' H'):∀{d:D}{v:V},oy d=true→Den K F' d v→Den K (fun b=>if OwnAt σ ρ b then none else F' b) d v
 | .non,_,_,q=>q
 | .bl _,_,_,q=>q
 | .int _,_,_,q=>q
 | .str _,_,_,q=>q
 | .tup ds,_,f,⟨a,vs,h1,h2,h3,h4⟩=>by
   refine⟨a,vs,h1,?_,gp S E ?_ h3,h4⟩
   ·show (if OwnAt σ ρ a then none else F' a)=_
    rw[if_neg,h2]
    intro hp
    obtain⟨_,o,k1,k2⟩:=OwnAt.obj S hp
    have k3:fA σ ρ (dH h (OwnAt σ ρ) H) F a=some (gT ((h.get? a).getD {cls:= .none,data:= .fields #[]}) o):=by
     unfold fA dH
     rw[if_pos hp,if_pos hp,k1]
     rfl
    have k4:=E.ff a _ k3
    rw[h2] at k4
    rcases k2 with⟨x,rfl⟩ | ⟨x,rfl⟩ | ⟨x,rfl⟩<;>cases k4
   ·exact f
 | .raw _,_,f,_=>by cases f
 | .exc _,_,f,_=>by cases f
 | .scr _,_,f,_=>by cases f
 | .lst _,_,f,_=>by cases f
 | .dct _ _,_,f,_=>by cases f
 | .dci _ _,_,f,_=>by cases f
theorem gp (S:StE K F H σ ρ) (E:Ext (fA σ ρ (dH h (OwnAt σ ρ) H) F) (dH h (OwnAt σ ρ) H) F' H'):∀{ds:List D}{vs:List V},j9 ds=true→DenL K F' ds vs→DenL K (fun b=>if OwnAt σ ρ b then none else F' b) ds vs
 |[],_,_,q=>q
 |d::ds,_,f,⟨v,r,h1,h2,h3⟩=>by
  unfold j9 at f
  rw[Bool.and_eq_true] at f
  exact⟨v,r,h1,lL S E f.1 h2,gp S E f.2 h3⟩
end
end
section
variable {X : Cx} {Xw : Nat → Hp → Prop} {e : Expr} {δ : DE} {τ : DT}
end
end L3
namespace L3
open PySem PySem.Spec L2
open PyProof.Rows hiding St
abbrev DF:=Rho→M C
def WPF (K:PySem.W.Frag) (Xw:Nat→Hp→Prop) (F H:Hp) (m:M C) (Q:VK):Prop:=
 match m with
 |none=>False
 |some (.ok c)=>∀a o H' F',Ext F H F' H'→H' a=some o→F' a=none→H a=none→DenC K F' c o→Q (.ref a) H'
 |some (.ex n)=>∀F' H',Ext F H F' H'→Xw n H'
def tDF (K:PySem.W.Frag) (Xw:Nat→Hp→Prop) (δ:DF):TE:=fun σ H Q=>∃F ρ,StE K F H σ ρ∧WPF K Xw F H (δ ρ) Q
def PDF (X:Cx) (Xw:Nat→Hp→Prop) (e:Expr) (δ:DF):Prop:=PE X e (tDF X.K Xw δ)
def gG (i:Nat) (δ:DF):DS:=fun ρ=>δ ρ>>=fun c=>M.ret (.nx (ρ.set i (some (.ow c))))
theorem StOk.setFresh {K:PySem.W.Frag}{F₀ H₀ F H F' H':Hp}{σ:St}{ρ:Rho}(s:StOk K F₀ H₀ F H σ ρ) {i:Nat}{a:Addr}{o:HO}{c₀:C}(E:Ext F H F' H') (ho:H' a=some o) (nF:F' a=none) (n:H a=none) (h:DenC K F' c₀ o):
 StOk K F₀ H₀ F' H' (σ.set i (some (.ref a))) (ρ.set i (some (.ow c₀))):=by
 have hle:=s.len
 have get:∀(j:Nat) (sl:Sl),(ρ.set i (some (.ow c₀)))[j]? =some (some sl)→(j=i∧i<ρ.length∧sl= .ow c₀)∨(j≠i∧ρ[j]? =some (some sl)):=fun j sl e=>by
  by_cases hj:j=i
  ·subst hj
   have hi:j<ρ.length:=by
    have:=(List.getElem?_eq_some_iff.mp e).1
    simpa using this
   rw[List.getElem?_set_self hi] at e
   cases e
   exact .inl ⟨rfl,hi,rfl⟩
  ·rw[List.getElem?_set_ne (Ne.symm hj)] at e
   exact .inr ⟨hj,e⟩
 have old:∀(j:Nat) (c:C) (b:Addr),ρ[j]? =some (some (.ow c))→σ[j]? =some (some (.ref b))→b≠a:=fun j c b e e' z=>by
  obtain⟨u,h1,b',o,h2,h3,_⟩:=s.st.den j _ e
  rw[h1] at e'
  cases e'
  cases h2
  rw[z,n] at h3
  cases h3
 refine⟨s.ext.trans E,⟨E.fh,fun j sl e=>?_⟩,by simp[hle],fun j c b e e'=>?_,fun j k c c' b e1 e2 e3 e4=>?_⟩
 ·rcases get j sl e with⟨rfl,hi,rfl⟩ | ⟨hj,e⟩
  ·exact⟨.ref a,by rw[List.getElem?_set_self (by omega)],a,_,rfl,ho,nF,h⟩
  ·obtain⟨u,h1,h2⟩:=s.st.den j sl e
   exact⟨u,by rw[List.getElem?_set_ne (Ne.symm hj)];exact h1,h2.ext E⟩
 ·rcases get j _ e with⟨rfl,hi,_⟩ | ⟨hj,e⟩
  ·rw[List.getElem?_set_self (by omega)] at e'
   cases e'
   exact Same.free s.ext.hh n
  ·rw[List.getElem?_set_ne (Ne.symm hj)] at e'
   exact s.own j c b e e'
 ·rcases get j _ e1 with⟨rfl,hi,_⟩ | ⟨hj,e1⟩
  ·rw[List.getElem?_set_self (by omega)] at e3
   cases e3
   rcases get k _ e2 with⟨rfl,_,_⟩ | ⟨hk,e2⟩
   ·rfl
   ·rw[List.getElem?_set_ne (Ne.symm hk)] at e4
    exact absurd rfl (old k c' a e2 e4)
  ·rcases get k _ e2 with⟨hki,hi,_⟩ | ⟨hk,e2⟩
   ·rw[hki,List.getElem?_set_self (by omega)] at e4
    cases e4
    rw[List.getElem?_set_ne (Ne.symm hj)] at e3
    exact absurd rfl (old j c a (by assumption) e3)
   ·rw[List.getElem?_set_ne (Ne.symm hj)] at e3
    rw[List.getElem?_set_ne (Ne.symm hk)] at e4
    exact s.sep j k c c' b e1 e2 e3 e4
theorem WPF.mono {K:PySem.W.Frag}{Xw:Nat→Hp→Prop}{F H:Hp}{m:M C}{Q Q':VK}(h:WPF K Xw F H m Q) (k:∀v H',Q v H'→Q' v H'):WPF K Xw F H m Q':=by
 match m,h with
 |none,h=>exact h
 |some (.ok d),h=>exact fun a o H' F' e h1 h2 h3 h4=>k _ _ (h a o H' F' e h1 h2 h3 h4)
 |some (.ex n),h=>exact h
theorem WPF.ext {K:PySem.W.Frag}{Xw:Nat→Hp→Prop}{F H F1 H1:Hp}{m:M C}{Q:VK}(e:Ext F H F1 H1) (h:WPF K Xw F H m Q):WPF K Xw F1 H1 m Q:=by
 match m,h with
 |none,h=>exact h
 |some (.ok d),h=>exact fun a o H' F' e' h1 h2 h3 h4=>h a o H' F' (e.trans e') h1 h2 (Same.free e.hh h3) h4
 |some (.ex n),h=>exact fun F2 H2 e2=>h F2 H2 (e.trans e2)
theorem WPF.bind {K:PySem.W.Frag}{Xw:Nat→Hp→Prop}{F H:Hp}{m:M D}{k:D→M C}{Q:VK}(h:WPF K Xw F H (m>>=k) Q):WP K Xw F H m fun v H1=>∃F1 d,Ext F H F1 H1∧Den K F1 d v∧WPF K Xw F1 H1 (k d) Q:=by
 match m,h with
 |none,h=>exact h
 |some (.ok d),h=>exact fun v H2 F2 e2 q=>⟨F2,d,e2,q,WPF.ext e2 (show WPF K Xw F H (k d) Q from h)⟩
 |some (.ex n),h=>exact h
theorem WPF.bindL {K:PySem.W.Frag}{Xw:Nat→Hp→Prop}{F H:Hp}{m:M (List D)}{k:List D→M C}{Q:VK}(h:WPF K Xw F H (m>>=k) Q):WPL K Xw F H m fun v H1=>∃F1 d,Ext F H F1 H1∧DenL K F1 d v∧WPF K Xw F1 H1 (k d) Q:=by
 match m,h with
 |none,h=>exact h
 |some (.ok d),h=>exact fun v H2 F2 e2 q=>⟨F2,d,e2,q,WPF.ext e2 (show WPF K Xw F H (k d) Q from h)⟩
 |some (.ex n),h=>exact h
def mkC (ds:List D):M C:=if ds.length≤lim then M.ret (.lst ds) else M.stuck
section
variable {X : Cx} {Xw : Nat → Hp → Prop} {e k v a b : Expr} {es : List Expr} {δ δ' : DF} {δk δv δa δb : DE} {δs : DA} {pos pos' p : Pos} {x : Str} {i : Nat}
theorem fH (hN:X.N.Nodup) (hi:X.N[i]? =some x) (hx:Loc X.env.scope x) (he:PDF X Xw e δ) (hf:X.fn x=true∨X.env.scope.names.lookup x=some .local:=by first | exact .inl rfl | exact .inr rfl)
 (hs:swapsWithSole [.Name x pos'] e pos.line X.env=pure false:=by rfl):
 PSD X Xw (.Assign [.Name x pos'] e pos) (gG i δ):=fun F₀ H₀=>PS.weak (mq he (eY hN hi hx hf) hs) fun D σ H ⟨F,ρ,s,w⟩=>by
 refine⟨F,ρ,s.st,?_⟩
 unfold gG at w
 match δ ρ,w with
 |none,w=>exact w
 |some (.ok c),w=>exact fun a o H' F' E h1 h2 h3 h4=>w _ F' H' (s.setFresh E h1 h2 h3 h4)
 |some (.ex n),w=>exact fun F' H' e'=>w F' H' (s.ext.trans e')
theorem Ext.fresh {F H:Hp}{p:Addr}{o:HO}(s:Same F H) (hp:H p=none):Ext F H F (upd H p o)∧F p=none:=⟨Ext.free s hp,Same.free s hp⟩
theorem nM (h:PDA X Xw es δs):PDF X Xw (.List es pos) (fun ρ=>δs ρ>>=mkC):=PE.weak (ml h) fun σ H Q ⟨F,ρ,s,w⟩=>by
 refine⟨F,ρ,s,WPL.mono (WPF.bindL w) fun vs H1 ⟨F1,ds,e1,q1,w1⟩=>?_⟩
 unfold mkC at w1
 split at w1
 ·rename_i hl
  have hv:=q1.len
  refine⟨by have:=a7;omega,fun p hp=>?_⟩
  obtain⟨E,nF⟩:=Ext.fresh (o:= .lst vs) e1.fh hp
  exact w1 p _ _ F1 E au nF hp ⟨vs,rfl,q1,hl⟩
 ·exact w1.elim
def kK:D→D→M C
 | .lst x, .lst y=>if x.length+y.length≤lim then M.ret (.lst (x++y)) else M.stuck
 |_,_=>M.stuck
theorem ko (ha:PD X Xw a δa) (hb:PD X Xw b δb):PDF X Xw (.BinOp a .Add b pos) (fun ρ=>δa ρ>>=fun x=>δb ρ>>=fun y=>kK x y):=PE.weak (oG l0 ha hb) fun σ H Q ⟨F,ρ,s,w⟩=>by
 refine⟨F,ρ,s,WP.mono (WPF.bind w) fun v H1 ⟨F1,x,e1,q1,w1⟩=>?_⟩
 refine⟨F1,ρ,s.ext e1,WP.mono (WPF.bind w1) fun u H2 ⟨F2,y,e2,q2,w2⟩=>?_⟩
 have q1:=Den.mono e2.ff q1
 unfold kK at w2
 split at w2
 ·split at w2
  ·rename_i hl
   obtain⟨a,vs,h1,h2,h3,h4⟩:=q1
   obtain⟨a',vs',k1,k2,k3,k4⟩:=q2
   have l1:=h3.len
   have l2:=k3.len
   have:=a7
   refine⟨a,a',vs,vs',h1,k1,e2.fh _ _ h2,e2.fh _ _ k2,by omega,fun p hp=>?_⟩
   obtain⟨E,nF⟩:=Ext.fresh (o:= .lst (vs++vs')) e2.fh hp
   exact w2 p _ _ F2 E au nF hp ⟨_,rfl,h3.append k3,by rw[List.length_append];exact hl⟩
  ·exact w2.elim
 ·exact w2.elim
end
end L3
namespace L3
open PySem PySem.Spec L2
open PyProof.Rows hiding St
section
variable {X : Cx} {Xw : Nat → Hp → Prop} {e k v a b : Expr} {es : List Expr} {δk δv δa δb : DE} {δs : DA} {pos pos' p : Pos} {x : Str} {i : Nat}
end
end L3
namespace L3
open PySem PySem.Spec L2
open PyProof.Rows hiding St
section
variable {X : Cx} {pins : List (Addr × Obj)} {σ : St} {H : Hp} {s : Shared} {h' : Heap}
end
section
variable {X : Cx} {Xw : Nat → Hp → Prop} {tg e : Expr} {es : List Expr} {δ δi : DE} {δs : DA} {pos p tp : Pos} {x1 : Nat}
end
end L3
namespace L3
open PySem PySem.Spec L2
open PyProof.Rows hiding St
section
variable {X : Cx} {Xw : Nat → Hp → Prop} {tg l : Expr} {δ : DE}
end
end L3
namespace L3
open PySem
section
variable {prog : Program} {w : World} {K : Type} [DecidableEq K] {knd : HeapKind prog w K} {A : Around} {E : Value → Shared → Prop} {s : Shared}
end
end L3
namespace L3
open PySem PySem.Spec L2
open PyProof.Rows hiding St
section
variable {X : Cx} {pins : List (Addr × Obj)} {σ : St} {H : Hp} {s : Shared} {a b : Addr} {A : Around} {E : Value → Shared → Prop}
end
section
variable {X : Cx} {Xw : Nat → Hp → Prop} {o e f : Expr} {δ δo δe δf : DE} {pos p apos cpos : Pos} {x : Str} {i : Nat}
end
end L3
namespace L3
open PySem PySem.Spec L2
open PyProof.Rows hiding St
section
variable {X : Cx} {Xw : Nat → Hp → Prop} {o e f : Expr} {δ δo δe δf : DE} {δs : DA} {pos p apos cpos : Pos} {x : Str} {i : Nat}
end
end L3
namespace L3
open PySem PySem.Spec L2
open PyProof.Rows hiding St
section
variable {X : Cx} {Xw : Nat → Hp → Prop} {a b e est : Expr} {δ δa δb δs : DE} {pos p2 : Pos}
theorem og:RvR X (fun x H Q=>∃a xs,x= .ref a∧SqL X.K H a xs∧∀p,H p=none→Q (.ref p) (upd H p (.lst xs.reverse))):=by
 intro pins s σ H x v u sl Q I rx hs ⟨a,xs,ex,hx,q⟩
 subst ex
 cases rx
 obtain⟨its,r,ht,hz⟩:=I.list hx
 have hlen:=r.length
 refine⟨"list",_,slot_list_getitem.lookup,ht.isList.typeIs,?_⟩
 refine wpAny_getItem_list_slice (st:=some (-1)) ht.isList hs .none .none (.int _ _) (by decide) ?_ (by rw[List.size_toArray]<;>omega)
 rw[PySem.W.krv_pick]
 refine⟨.ref s.heap.objs.size,_,I.laid (t':=s.toks) (o:= .lst xs.reverse) (fun b ob q=>Heap.get?_push_of_some _ q) (Nat.le_refl _) ?_,rfl,q _ (I.hok.fresh (Nat.le_refl _))⟩
 exact⟨by rw[List.length_reverse];exact hz,_,0,r.reverse,Heap.get?_push_size _ rfl⟩
def oH:D→M D
 | .lst ds=>M.ret (.lst ds.reverse)
 |_=>M.stuck
def iL (a st:DE):DE:=fun ρ=>a ρ>>=fun d=>st ρ>>=fun k=>match k with
 | .int i=>if i= -1 then oH d else M.stuck
 |_=>M.stuck
theorem nK (he:PD X Xw e δ) (hs:PD X Xw est δs):PD X Xw (.Subscript e (.Slice none none (some est) p2) pos) (iL δ δs):=
 PE.weak (pB og he hs) fun σ H Q ⟨F,ρ,s,w⟩=>by
  refine⟨F,ρ,s,WP.mono (WP.bind w) fun v H1 ⟨F1,d,e1,q1,w1⟩=>?_⟩
  refine⟨F1,ρ,s.ext e1,WP.mono (WP.bind w1) fun y H2 ⟨F2,k,e2,q2,w2⟩=>?_⟩
  have q3:=Den.mono e2.ff q1
  cases k with
  |int i=>
   have w2:WP X.K Xw F2 H2 (if i= -1 then oH d else M.stuck) Q:=w2
   split at w2
   ·rename_i hi
    subst hi
    refine⟨q2,?_⟩
    cases d with
    |lst ds=>
     obtain⟨a,vs,rfl,h2,h3,h4⟩:=q3
     exact⟨a,vs,rfl,SqL.of (e2.fh _ _ h2),fun p hp=>WP.fin w2 (Ext.lay e2.fh hp) ⟨p,_,rfl,au,DenL.mono (Ext.lay e2.fh hp).ff h3.reverse,by rw[List.length_reverse];exact h4⟩⟩
    |_=>exact w2.elim
   ·exact w2.elim
  |_=>exact w2.elim
end
section
variable {prog : Program} {w : World} {A : Around} {E : Value → Shared → Prop} {s : Shared}
end
end L3
namespace L3
open PySem PySem.Spec L2
open PyProof.Rows hiding St
section
variable {prog : Program} {w : World} {A : Around} {E : Value → Shared → Prop} {s : Shared}
end
end L3
namespace L3
open PySem PySem.Spec L2
open PyProof.Rows hiding St
section
variable {prog : Program} {w : World} {A : Around} {E : Value → Shared → Prop} {s : Shared}
end
end L3
namespace L3
open PySem PySem.Spec L2
open PyProof.Rows hiding St
section
variable {X : Cx} {Xw : Nat → Hp → Prop} {a b e e2 : Expr} {δa δb : DE} {δs : DA} {p pos : Pos}
end
end L3
namespace L3
open PySem PySem.Spec L2
open PyProof.Rows hiding St
mutual
def ov:D→Bool
 | .non=>true
 | .bl _=>true
 | .int _=>true
 | .str _=>true
 | .tup ds=>iM ds
 | .lst ds=>iM ds
 | .raw _=>false
 | .exc _=>false
 | .scr _=>false
 | .dct _ _=>false
 | .dci _ _=>false
def iM:List D→Bool
 |[]=>true
 |d::ds=>ov d&&iM ds
end
def ja (ρ:Rho):Bool:=ρ.all fun x=>match x with
 |some (.ow (.lst _))=>false
 |_=>true
theorem l8 {ρ:Rho}{i:Nat}{ds:List D}(h:ja ρ=true) (e:ρ[i]? =some (some (.ow (.lst ds)))):False:=by
 have:=List.all_eq_true.mp h _ (List.mem_of_getElem? e)
 cases this
section
variable {K : PySem.W.Frag} {F H F' H' : Hp} {σ : St} {ρ : Rho} {h : Heap} {b : Addr}
theorem OwnAt.dict (S:StE K F H σ ρ) (hd:ja ρ=true) (p:OwnAt σ ρ b):∃o,H b=some o∧((∃x,o= .dT x)∨∃x,o= .dK x):=by
 obtain⟨i,c,h1,h2⟩:=p
 obtain⟨v,h3,a,o,rfl,h4,h5,h6⟩:=S.den i _ h1
 rw[h3] at h2
 cases h2
 refine⟨o,h4,?_⟩
 cases c with
 |lst ds=>exact(l8 hd h1).elim
 |dct ks ds=>obtain⟨vs,rfl,_⟩:=h6;exact .inl ⟨_,rfl⟩
 |dci ks ds=>obtain⟨vs,rfl,_⟩:=h6;exact .inr ⟨_,rfl⟩
open Classical in
theorem kf (S:StE K F H σ ρ) (hd:ja ρ=true) (E:Ext (fA σ ρ (dH h (OwnAt σ ρ) H) F) (dH h (OwnAt σ ρ) H) F' H') {a:Addr}{o:HO}(e:F' a=some o) (hne:∀q u,o≠ .frz q u):(if OwnAt σ ρ a then none else F' a)=some o:=by
 rw[if_neg,e]
 intro hp
 obtain⟨o',k1,k2⟩:=OwnAt.dict S hd hp
 have k3:fA σ ρ (dH h (OwnAt σ ρ) H) F a=some (gT ((h.get? a).getD {cls:= .none,data:= .fields #[]}) o'):=by
  unfold fA dH
  rw[if_pos hp,if_pos hp,k1]
  rfl
 have k4:=E.ff a _ k3
 rw[e] at k4
 rcases k2 with⟨x,rfl⟩ | ⟨x,rfl⟩<;>cases k4<;>exact hne _ _ rfl
open Classical in
mutual
theorem lK (S:StE K F H σ ρ) (hd:ja ρ=true) (E:Ext (fA σ ρ (dH h (OwnAt σ ρ) H) F) (dH h (OwnAt σ ρ) H) F' H'):∀{d:D}{v:V},ov d=true→Den K F' d v→Den K (fun b=>if OwnAt σ ρ b then none else F' b) d v
 | .non,_,_,q=>q
 | .bl _,_,_,q=>q
 | .int _,_,_,q=>q
 | .str _,_,_,q=>q
 | .tup ds,_,f,⟨a,vs,h1,h2,h3,h4⟩=>⟨a,vs,h1,kf S hd E h2 (fun _ _ z=>nomatch z),d3 S hd E f h3,h4⟩
 | .lst ds,_,f,⟨a,vs,h1,h2,h3,h4⟩=>⟨a,vs,h1,kf S hd E h2 (fun _ _ z=>nomatch z),d3 S hd E f h3,h4⟩
 | .raw _,_,f,_=>by cases f
 | .exc _,_,f,_=>by cases f
 | .scr _,_,f,_=>by cases f
 | .dct _ _,_,f,_=>by cases f
 | .dci _ _,_,f,_=>by cases f
theorem d3 (S:StE K F H σ ρ) (hd:ja ρ=true) (E:Ext (fA σ ρ (dH h (OwnAt σ ρ) H) F) (dH h (OwnAt σ ρ) H) F' H'):∀{ds:List D}{vs:List V},iM ds=true→DenL K F' ds vs→DenL K (fun b=>if OwnAt σ ρ b then none else F' b) ds vs
 |[],_,_,q=>q
 |d::ds,_,f,⟨v,r,h1,h2,h3⟩=>by
  unfold iM at f
  rw[Bool.and_eq_true] at f
  exact⟨v,r,h1,lK S hd E f.1 h2,d3 S hd E f.2 h3⟩
end
end
section
variable {X : Cx} {Xw : Nat → Hp → Prop} {e : Expr} {δ : DE}
end
end L3
namespace L3
open PySem PySem.Spec L2
open PyProof.Rows hiding St
section
variable {X : Cx} {Xw : Nat → Hp → Prop} {st : Stmt} {τ : DS} {is : List Nat}
end
end L3
namespace L3
open PySem PySem.Spec L2
open PyProof.Rows hiding St
section
variable {X : Cx} {Xw : Nat → Hp → Prop} {a b e o : Expr} {δ δa δb δo : DE} {δl : DA} {pos apos cpos : Pos}
def iN (x y:Str):Bool:=decide (0+y.length≤x.length)&&Builtin.Str.subAt x y (x.length - y.length)
def cV:D→List D→M D
 | .str x,[.str y]=>M.ret (.bl (iN x y))
 |_,_=>M.stuck
theorem i5:MtR X "str.endswith" (fun x vs H Q=>∃y z:Str,x= .str y∧vs=[.str z]∧Q (.bl (iN y z)) H):=by
 intro pins s σ H x vs v us Q I rx rv h
 obtain⟨y,z,rfl,rfl,q⟩:=h
 obtain⟨t,rfl⟩:=rx
 obtain⟨u,rfl,r1⟩:=rv.one
 obtain⟨t2,rfl⟩:=r1
 exact call_gives F.slot_str_endswith (typeIs_str _ _ _) F.entry_str_endswith (F.args_str_endswith_2 _ _) (gives_str_endswith y z t t2) ⟨.bl (iN y z),H,I.tok _,rfl,q⟩
theorem jd (ho:PD X Xw o δo) (ha:PDA X Xw [e] δl) (hbase:attributeBase o "endswith" X.env (eval o X.env)=eval o X.env:=by rfl)
 (hfew:((backTo cpos (starEach [e] X.env)).all (fun x=>!x.1)&&(backToKw cpos (keywordEach [] X.env)).all (fun x=>x.1.isSome)&&decide ([e].length+([]:List Keyword).length+(if ([]:List Keyword).isEmpty then 0 else 1)<30))=true:=by rfl)
 (hline:(apos.endLine==cpos.line)=true:=by rfl) (hst:starEach [e] X.env=[(false,eval e X.env)]:=by rfl):PD X Xw (.Call (.Attribute o "endswith" apos) [e] [] cpos) (dM isS cV δo δl):=
 ki PySem.F.plainAttrs_str PySem.F.slot_str_endswith PySem.F.type_str_endswith i5 gY (fun Xw F H x vs d ds Q s hx hv w=>by
  unfold cV at w
  split at w
  ·rename_i y z
   obtain⟨v,rfl,h1⟩:=hv.one
   exact⟨y,z,hx.1,by rw[h1.1],WP.now w s rfl⟩
  ·exact w.elim) ho ha hbase hfew hline hst rfl
def splitM:D→List D→M D
 | .str x,[.str y]=>if y.length≠0∧x.length+2≤lim then M.ret (.lst ((Txt.split x y).map D.str)) else M.stuck
 |_,_=>M.stuck
theorem c9:∀(xs:List Str) (n:Nat),Vals (xs.map V.str) (strsFrom n xs)
 |[],_=> .nil
 |x::r,n=> .cons ⟨n,rfl⟩ (c9 r (n+1))
theorem lU:MtR X "str.split" (fun x vs H Q=>∃y z:Str,x= .str y∧vs=[.str z]∧z.length≠0∧y.length+2≤lim∧∀p,H p=none→Q (.ref p) (upd H p (.lst ((Txt.split y z).map V.str)))):=by
 intro pins s σ H x vs v us Q I rx rv h
 obtain⟨y,z,rfl,rfl,hz,hy,q⟩:=h
 obtain⟨t,rfl⟩:=rx
 obtain⟨u,rfl,r1⟩:=rv.one
 obtain⟨t2,rfl⟩:=r1
 have hz0:(z.length==0)=false:=by simpa using hz
 have hl:y.length≤sizeLine:=by have:=a7;omega
 have hn:=split_le y z
 cases hc:(decide (y.length<z.length)||decide (Builtin.Str.strKind y<Builtin.Str.strKind z)) with
 |true=>
  have es:Txt.split y z=[y]:=by unfold Txt.split;rw[if_pos hc]
  rw[es] at q hn
  refine call_meets F.slot_str_split (typeIs_str _ _ _) F.entry_str_split (F.args_str_split_2 _ _) (meets_str_split_cannot_occur y z t t2 hc) ?_
  refine⟨.ref s.heap.objs.size,_,I.laid (t':=s.toks) (o:= .lst [.str y]) (fun b ob q=>Heap.get?_push_of_some _ q) (Nat.le_refl _) ?_,rfl,q _ (I.hok.fresh (Nat.le_refl _))⟩
  exact⟨by show 1≤_;decide,[.str y t],0, .cons ⟨t,rfl⟩ .nil,Heap.get?_push_size _ rfl⟩
 |false=>
  cases ho:(Builtin.Str.occurrences y z 0 y.length (y.length+1)).isEmpty with
  |true=>
   have es:Txt.split y z=[y]:=by unfold Txt.split;rw[if_neg (by rw[hc];simp),if_pos ho]
   rw[es] at q hn
   refine call_meets F.slot_str_split (typeIs_str _ _ _) F.entry_str_split (F.args_str_split_2 _ _) (meets_str_split_not_found y z t t2 hc hz0 ho) ?_
   refine⟨.ref s.heap.objs.size,_,I.laid (t':=s.toks) (o:= .lst [.str y]) (fun b ob q=>Heap.get?_push_of_some _ q) (Nat.le_refl _) ?_,rfl,q _ (I.hok.fresh (Nat.le_refl _))⟩
   exact⟨by show 1≤_;decide,[.str y t],0, .cons ⟨t,rfl⟩ .nil,Heap.get?_push_size _ rfl⟩
  |false=>
   have es:Txt.split y z=Builtin.Str.partsBetween y (Builtin.Str.occurrences y z 0 y.length (y.length+1)) z.length:=by unfold Txt.split;rw[if_neg (by rw[hc];simp),if_neg (by rw[ho];simp)]
   rw[es] at q hn
   refine call_meets F.slot_str_split (typeIs_str _ _ _) F.entry_str_split (F.args_str_split_2 _ _) (meets_str_split_sep y z t t2 hc hz0 ho hl (by have:=a7;omega)) ?_
   refine⟨.ref s.heap.objs.size,_,I.laid (o:= .lst _) (fun b ob q=>Heap.get?_push_of_some _ q) (Nat.le_refl _) ?_,rfl,q _ (I.hok.fresh (Nat.le_refl _))⟩
   exact⟨by rw[List.length_map];have:=a7;omega,_,0,c9 _ _,Heap.get?_push_size _ rfl⟩
theorem gn {K:PySem.W.Frag}{F:Hp}:∀{xs:List Str},(∀x∈xs,x.length≤lim)→DenL K F (xs.map D.str) (xs.map V.str)
 |[],_=> .nil
 |x::r,h=> .cons ⟨rfl,h x (List.mem_cons_self ..)⟩ (gn fun y hy=>h y (List.mem_cons_of_mem _ hy))
theorem fE (ho:PD X Xw o δo) (ha:PDA X Xw [e] δl) (hbase:attributeBase o "split" X.env (eval o X.env)=eval o X.env:=by rfl)
 (hfew:((backTo cpos (starEach [e] X.env)).all (fun x=>!x.1)&&(backToKw cpos (keywordEach [] X.env)).all (fun x=>x.1.isSome)&&decide ([e].length+([]:List Keyword).length+(if ([]:List Keyword).isEmpty then 0 else 1)<30))=true:=by rfl)
 (hline:(apos.endLine==cpos.line)=true:=by rfl) (hst:starEach [e] X.env=[(false,eval e X.env)]:=by rfl):PD X Xw (.Call (.Attribute o "split" apos) [e] [] cpos) (dM isS splitM δo δl):=
 ki PySem.F.plainAttrs_str PySem.F.slot_str_split PySem.F.type_str_split lU gY (fun Xw F H x vs d ds Q s hx hv w=>by
  unfold splitM at w
  split at w
  ·rename_i y z
   obtain⟨v,rfl,h1⟩:=hv.one
   split at w
   ·rename_i hc
    have hn:=split_le y z
    exact⟨y,z,hx.1,by rw[h1.1],hc.1,hc.2,fun p hp=>WP.fin w (Ext.lay s hp) ⟨p,_,rfl,au,gn fun a ha=>by have:=part_short ha;omega,by rw[List.length_map];omega⟩⟩
   ·exact w.elim
  ·exact w.elim) ho ha hbase hfew hline hst rfl
def bW:D→List D→M D
 | .str sep,[.lst ds]=>match dQ ds with
   |some xs=>if (xs.map (·.length)).sum+xs.length*sep.length≤lim then M.ret (.str (Txt.join sep xs)) else M.stuck
   |none=>M.stuck
 |_,_=>M.stuck
theorem iY (sep:Str):∀xs:List Str,(Txt.join sep xs).length≤(xs.map (·.length)).sum+xs.length*sep.length:=by
 intro xs
 show (Builtin.Str.glued _ xs).length≤_
 rw[StrLaws.glued_eq_join]
 induction xs with
 |nil=>show (0:Nat)≤_;exact Nat.zero_le _
 |cons x r ih=>
  cases r with
  |nil=>
   show x.length≤_
   simp
  |cons y r=>
   show (x++sep++Str.join _ (y::r)).length≤_
   rw[aO,aO,List.map_cons,List.sum_cons,List.length_cons,Nat.add_mul]
   omega
def pO (K:PySem.W.Frag):V→List V→Hp→VK→Prop:=fun x vs H Q=>∃(sep:Str) (a:Addr) (xs:List Str),x= .str sep∧vs=[.ref a]∧H a=some (.lst (xs.map V.str))∧(xs.map (·.length)).sum+xs.length*sep.length≤lim∧Q (.str (Txt.join sep xs)) H
theorem lT:MtR X "str.join" (pO X.K):=by
 intro pins s σ H x vs v us Q I rx rv h
 obtain⟨sep,a,xs,rfl,rfl,hH,hl,q⟩:=h
 obtain⟨t,rfl⟩:=rx
 obtain⟨u,rfl,r1⟩:=rv.one
 cases (show u=_ from r1)
 have hok:(xs.map (·.length)).sum+xs.length*sep.length≤16777216:=by
  unfold lim at hl
  omega
 obtain⟨its,r2,pl,hz⟩:=I.list (SqL.of (K:=X.K) hH)
 refine join_list pl.isList (by simpa using dS r2) hok fun t' k=>⟨.str _,H,I.tok k,⟨t',rfl⟩,q⟩
theorem fB (ho:PD X Xw o δo) (ha:PDA X Xw [e] δl) (hbase:attributeBase o "join" X.env (eval o X.env)=eval o X.env:=by rfl)
 (hfew:((backTo cpos (starEach [e] X.env)).all (fun x=>!x.1)&&(backToKw cpos (keywordEach [] X.env)).all (fun x=>x.1.isSome)&&decide ([e].length+([]:List Keyword).length+(if ([]:List Keyword).isEmpty then 0 else 1)<30))=true:=by rfl)
 (hline:(apos.endLine==cpos.line)=true:=by rfl) (hst:starEach [e] X.env=[(false,eval e X.env)]:=by rfl):PD X Xw (.Call (.Attribute o "join" apos) [e] [] cpos) (dM isS bW δo δl):=
 ki PySem.F.plainAttrs_str PySem.F.slot_str_join PySem.F.type_str_join lT gY (fun Xw F H x vs d ds Q s hx hv w=>by
  unfold bW at w
  split at w
  ·rename_i sep ds
   obtain⟨v,rfl,h1⟩:=hv.one
   obtain⟨a,ws,rfl,h2,h3,_⟩:=h1
   split at w
   ·rename_i xs hxs
    split at w
    ·rename_i hc
     exact⟨sep,a,xs,hx.1,rfl,by rw[←dR hxs h3];exact s _ _ h2,hc,WP.now w s ⟨rfl,Nat.le_trans (iY sep xs) hc⟩⟩
    ·exact w.elim
   ·exact w.elim
  ·exact w.elim) ho ha hbase hfew hline hst rfl
def fW (x:Str) (n:Nat):Str:=⟨(List.replicate n x.cps).foldl (· ++ ·) #[]⟩
def fj:D→D→M D
 | .str x, .int k=>if (0≤k∧k≤64)∧x.length*k.toNat≤lim then M.ret (.str (fW x k.toNat)) else M.stuck
 |_,_=>M.stuck
theorem jl (x:Str):∀(n:Nat) (a:Array Nat),((List.replicate n x.cps).foldl (· ++ ·) a).toList=a.toList++(List.replicate n x.cps.toList).flatten
 |0,a=>by simp
 |n+1,a=>by
  rw[List.replicate_succ,List.foldl_cons,jl x n,List.replicate_succ,List.flatten_cons,Array.toList_append,List.append_assoc]
theorem cS (x:Str) (n:Nat):(fW x n).cps.toList=(List.replicate n x.cps.toList).flatten:=by
 show ((List.replicate n x.cps).foldl (· ++ ·) #[]).toList=_
 rw[jl]
 rfl
theorem dO {x y:Str}(h:x.cps.toList=y.cps.toList):x=y:=by
 obtain⟨⟨a⟩⟩:=x
 obtain⟨⟨b⟩⟩:=y
 cases (show a=b from h)
 rfl
theorem fJ (x:Str) (n:Nat):(fW x n).length=x.length*n:=by
 show (fW x n).cps.toList.length=x.cps.toList.length*n
 rw[cS]
 induction n with
 |zero=>simp
 |succ n ih=>rw[List.replicate_succ,List.flatten_cons,List.length_append,ih,Nat.mul_succ];omega
theorem mF (x:Str):fW x 1=x:=dO (by rw[cS];simp)
theorem mE {x:Str}(h:x.length=0) (n:Nat):fW x n=x:=by
 have e:=kE h
 subst e
 refine dO ?_
 rw[cS]
 induction n with
 |zero=>rfl
 |succ n ih=>rw[List.replicate_succ,List.flatten_cons,ih];rfl
theorem nz:OpR X (binaryOp .Mult) (fun x y H Q=>∃(z:Str) (k:Int),x= .str z∧y= .int k∧(0≤k∧k≤64)∧z.length*k.toNat≤lim∧Q (.str (fW z k.toNat)) H):=by
 intro pins s σ H x y v u Q I rx ry h
 obtain⟨z,k,rfl,rfl,hk,hl,q⟩:=h
 obtain⟨t,rfl⟩:=rx
 obtain⟨t2,rfl⟩:=ry
 have hlm:=a7
 refine PySem.P.mul_str (by simp;omega) (fun _ _=>?_) (fun _ _=>?_) ?_
 ·have h1:(2 ^ 63 - 1:Int) / 64≤(2 ^ 63 - 1) / k∨k=0:=by
   by_cases h0:k=0
   ·exact .inr h0
   ·exact .inl (Int.le_ediv_of_mul_le (by omega) (by have:(2 ^ 63 - 1:Int) / 64*k≤(2 ^ 63 - 1) / 64*64:=Int.mul_le_mul_of_nonneg_left hk.2 (by decide);exact Int.le_trans this (by decide)))
  rename_i hn1 hn2
  have hk1:1≤k.toNat:=by omega
  have:z.length≤z.length*k.toNat:=Nat.le_mul_of_pos_right _ hk1
  have:(z.length:Int)≤lim:=by exact_mod_cast (by omega:z.length≤lim)
  rcases h1 with h1 | h1
  ·have h2:((lim:Nat):Int)≤(2 ^ 63 - 1:Int) / 64:=by decide
   omega
  ·omega
 ·unfold Builtin.Str.tooLong
  simp
  omega
 ·by_cases h1:k<1
  ·rw[if_pos h1]
   have h0:k=0:=by omega
   subst h0
   exact⟨by show 0≤_;exact Nat.zero_le _,⟨.str _,H,I.tok _,⟨_,rfl⟩,q⟩⟩
  ·rw[if_neg h1]
   by_cases h2:(k==1||z.length==0)=true
   ·rw[if_pos h2]
    have e:fW z k.toNat=z:=by
     rcases Bool.or_eq_true_iff.mp h2 with h3 | h3
     ·have:k=1:=by simpa using h3
      subst this
      exact mF z
     ·exact mE (by simpa using h3) _
    rw[e] at q
    exact⟨.str z,H,I,⟨t,rfl⟩,q⟩
   ·rw[if_neg h2]
    exact⟨by have:=fJ z k.toNat;show (fW z k.toNat).length≤sizeLine;omega,⟨.str _,H,I.tok _,⟨_,rfl⟩,q⟩⟩
theorem kn (ha:PD X Xw a δa) (hb:PD X Xw b δb):PD X Xw (.BinOp a .Mult b pos) (d2 fj δa δb):=eA nz (fun Xw F H x y dx dy Q s hx hy w=>by
 unfold fj at w
 split at w
 ·rename_i z k
  split at w
  ·rename_i hc
   exact⟨z,k,hx.1,hy,hc.1,hc.2,WP.now w s ⟨rfl,by rw[fJ];exact hc.2⟩⟩
  ·exact w.elim
 ·exact w.elim) ha hb
end
end L3
namespace L3
def sRz (n:Nat) (δs:DA):DS:=fun ρ=>bif Nat.beq n 7 then(δs ρ>>=fun ds=>if ds.length≤lim then M.raise n else M.stuck) else M.stuck
end L3
namespace K1
open PySem PySem.Spec L2 L3
open PyProof.Rows hiding St
def rzI:Nat→Nat
 |_=>7
def cB (cA:Nat→Addr) (n:Nat):Addr:=cA (rzI n)
def cAs (cA:Nat→Addr):List Addr:=[cA 7]
def hdM (k:Nat):M D:=M.ret .non
def jz:DS:=(bq (b5 (dA de (aC (dV 0) (aC (dC (.raw (.ty "str"))) aN))) (b5 (d2 gEq (dA bp (aC (dV 0) aN)) (dC (.int 1))) (d2 (lM false) (dV 0) (dC (.str "abcdef"))))))
def a8:List D→M D:=bZ 1 (jz)
def fO:DS:=(aL (sIf (tB' (d2 gEq (dV 0) (dA bz aN))) (bq (d2 cO (dC (.int 7)) (dV 1))) dN) (bq (d2 a6 (d2 lN (dV 0) (d2 dq (dV 1) (dA bp (aC (dV 0) aN)))) (d2 cO (dC (.int 6553)) (d2 fR (dV 1) (dA bp (aC (dV 0) aN)))))))
def bU:List D→M D:=bZ 2 (fO)
def jA:DS:=(aL (sIf (dOr (bt (bu (dA de (aC (dV 0) (aC (dC (.raw (.ty "str"))) aN))))) (bt (tB' (chI (fun i j=>decide (i≤j)) (fun i j=>decide (i≤j)) (dC (.int 1)) (dA bp (aC (dV 0) aN)) (dC (.int 8)))))) (bq (dC (.bl false))) dN) (bq (dA allM (aC (bf 0 (fun ρ=>(dV 0) ρ>>=pS) bN (az 1 a8 (aC (dV 0) aN))) aN))))
def bT:List D→M D:=bZ 1 (jA)
def eD:DS:=(aL (bo 3 (d2 dq (d2 a6 (d2 cO (d2 dq (az 2 bU (aC (dV 0) (aC (dV 1) aN))) (dC (.int 2147483563))) (dC (.int 69069))) (d2 cO (dC (.int 104723)) (d2 a6 (dV 1) (dC (.int 1))))) (dC (.int 2147483563)))) (aL (bo 3 (d2 dq (d2 a6 (d2 cO (dV 3) (dV 3)) (d2 fR (dV 3) (dC (.int 3)))) (dC (.int 2147483399)))) (bq (d2 dq (d2 fR (d2 dq (d2 a6 (d2 cO (dV 3) (dV 3)) (d2 fR (dV 3) (dC (.int 7)))) (dC (.int 2147483647))) (dC (.int 11))) (dV 2)))))
def ak:List D→M D:=bZ 4 (eD)
def fN:DS:=(aL (sIf (dOr (bt (bu (dA de (aC (dV 0) (aC (dC (.raw (.ty "tuple"))) aN))))) (bt (tB' (chI (fun i j=>decide (i≤j)) (fun i j=>decide (i≤j)) (dC (.int 1)) (dA bp (aC (dV 0) aN)) (dC (.int 8)))))) (bq (dC (.bl false))) dN) (aL (sIf (bt (bu (dA allM (aC (bf 0 (gO (dV 0)) bN (az 1 bT (aC (dV 0) aN))) aN)))) (bq (dC (.bl false))) dN) (bq (dA allM (aC (bf 0 (gO (dV 0)) bN (d2 gEq (dA bp (aC (dV 0) aN)) (dA bp (aC (d2 iV (dV 1) (dC (.int 0))) aN)))) aN)))))
def aU:List D→M D:=bZ 1 (fN)
def jB:DS:=(aL (bo 3 (d2 a6 (dC (.int 1)) (az 3 ak (aC (dV 0) (aC (dV 1) (aC (dV 2) aN)))))) (aL (bo 4 (d2 a6 (dC (.int 1)) (az 3 ak (aC (dV 0) (aC (d2 a6 (dV 1) (dC (.int 1))) (aC (dV 2) aN)))))) (aL (bo 5 (d2 jM (dA bz (aC (dC (.str "ab")) (aC (dC (.str "abc")) (aC (dC (.str "aab")) (aC (dC (.str "fa")) aN))))) (az 3 ak (aC (dV 0) (aC (d2 a6 (dV 1) (dC (.int 2))) (aC (dC (.int 4)) aN)))))) (aL (bo 6 (dA i4 aN)) (aL (fun ρ=>noex ((jm (putN 7) (fun ρ=>(aC (dV 3) aN) ρ>>=gE) (lp [7,8] (aL (bo 8 (bf 0 (fun ρ=>(aC (dV 4) aN) ρ>>=gE) bN (d2 iT (dV 6) (az 3 ak (aC (dV 1) (aC (d2 a6 (d2 a6 (d2 a6 (dV 2) (dC (.int 3))) (d2 cO (dC (.int 7)) (dV 8))) (dV 0)) (aC (dA bp (aC (dV 6) aN)) aN))))))) (bo 6 (d2 iS (dV 6) (dA i4 (aC (dM isS joinM (dC (.str "")) (aC (dV 8) aN)) aN))))))) ρ)) (bq (dV 6)))))))
def a9:List D→M D:=bZ 9 (jB)
def iE:DS:=(sIf (bt (bu (az 1 aU (aC (dV 0) aN)))) (sRz 0 (aC (dC (.str "a tuple of 1 to 8 texts of 1 to 8 letters, all as long, is asked for")) aN)) dN)
def bO:List D→M D:=bZ 1 (iE)
def j2:DS:=(bq (dM isS joinM (dC (.str "")) (aC (bf 0 (m7 (mX (dV 0)) (gO (dV 0))) bN (d2 bx (dV 0) (dC (.str "\n")))) aN)))
def dc:List D→M D:=bZ 1 (j2)
def dZ:DS:=(aL (sIf (dOr (bt (bu (dA de (aC (dV 0) (aC (dC (.raw (.ty "str"))) aN))))) (bt (bu (dM isS cV (dV 0) (aC (dC (.str "\n")) aN))))) (sRz 7 (aC (dC (.str "a text whose rows are each ended by a line feed is asked for")) aN)) dN) (aL (bo 1 (dA eC (aC (dM isS splitM (dSl (dV 0) oN (oS (d1 g6 (dC (.int 1))))) (aC (dC (.str "\n")) aN)) aN))) (aL (sIf (bt (bu (az 1 aU (aC (dV 1) aN)))) (sRz 7 (aC (dC (.str "the text of a board is asked for")) aN)) dN) (bq (dV 1)))))
def aE:List D→M D:=bZ 2 (dZ)
def iD:DS:=(aL (mH (az 1 bO (aC (dV 0) aN))) (bq (az 1 dc (aC (dV 0) aN))))
def aZ:List D→M D:=bZ 1 (iD)
end K1
namespace K1
open PySem PySem.Spec L2 L3
open PyProof.Rows hiding St
def lB:DS:=(aL (bo 1 (dM isS splitM (dV 0) (aC (dC (.str "\n")) aN))) (aL (bo 2 (dA eC (aC (dSl (dV 1) oN (oS (d1 g6 (dC (.int 1))))) aN))) (bq (dIf (jE (tB' (d2 gEq (d2 jM (dV 1) (d1 g6 (dC (.int 1)))) (dC (.str "")))) (bu (az 1 aU (aC (dV 2) aN)))) (dV 2) (dC .non)))))
def a5:List D→M D:=bZ 3 (lB)
def fP:DS:=(aL (mK (bq (az 1 aE (aC (dV 0) aN))) fun k=>noex (hdM k)) (bq (dC (.bl false))))
def aW:List D→M D:=bZ 3 (fP)
def eE:DS:=(bo 1 (az 3 a9 (aC (dV 0) (aC (dC (.int 0)) (aC (dC (.int 5)) aN)))))
def eF:DS:=(bo 2 (az 3 a9 (aC (dV 0) (aC (dC (.int 50)) (aC (dC (.int 5)) aN)))))
def eG:DS:=(bo 3 (az 1 aZ (aC (dV 1) aN)))
def eH:DS:=(bo 4 (az 3 ak (aC (dV 0) (aC (dC (.int 100)) (aC (d2 a6 (dA bp (aC (dV 3) aN)) (dC (.int 1))) aN)))))
def eI:DS:=(bo 5 (d2 iT (dC (.str "abfgA \n.0")) (az 3 ak (aC (dV 0) (aC (dC (.int 101)) (aC (dC (.int 9)) aN))))))
def eJ:DS:=(gG 6 (fun ρ=>(aC (dV 3) (aC (d2 bx (dSl (dV 3) oN (oS (dV 4))) (dSl (dV 3) (oS (d2 a6 (dV 4) (dC (.int 1)))) oN)) (aC (d2 bx (dSl (dV 3) oN (oS (d2 a6 (dV 4) (dC (.int 1))))) (dSl (dV 3) (oS (dV 4)) oN)) (aC (d2 bx (d2 bx (dSl (dV 3) oN (oS (dV 4))) (dV 5)) (dSl (dV 3) (oS (d2 a6 (dV 4) (dC (.int 1)))) oN)) aN)))) ρ>>=mkC))
def eK:DS:=(sFz 6 (gG 6 (fun ρ=>(dV 6) ρ>>=fun x=>(dA bz (aC (d2 bx (d2 bx (dSl (dV 3) oN (oS (dV 4))) (dV 5)) (dSl (dV 3) (oS (dV 4)) oN)) (aC (dC (.str "")) (aC (dC (.str "\n")) (aC (dC (.str "a")) (aC (dC (.str "a\n")) (aC (dSl (dV 3) oN (oS (d1 g6 (dC (.int 1))))) (aC (d2 fj (dV 3) (dC (.int 2))) (aC (d2 fj (dV 3) (dC (.int 9))) aN))))))))) ρ>>=fun y=>kK x y)))
def eM:DS:=(bo 7 (dM isS splitM (dV 3) (aC (dC (.str "\n")) aN)))
def eN:DS:=(bo 8 (az 3 ak (aC (dV 0) (aC (dC (.int 102)) (aC (dA bp (aC (dV 7) aN)) aN)))))
def eO:DS:=(sFz 6 (gG 6 (fun ρ=>(dV 6) ρ>>=fun x=>(dA bz (aC (dM isS bW (dC (.str "\n")) (aC (d2 cN (dSl (dV 7) oN (oS (dV 8))) (dSl (dV 7) (oS (d2 a6 (dV 8) (dC (.int 1)))) oN)) aN)) (aC (dM isS bW (dC (.str "\n")) (aC (d2 cN (dSl (dV 7) oN (oS (d2 a6 (dV 8) (dC (.int 1))))) (dSl (dV 7) (oS (dV 8)) oN)) aN)) aN))) ρ>>=fun y=>kK x y)))
def dU:DS:=(bo 9 (d2 cN (d2 cN (dSl (dV 7) oN (oS (dV 8))) (iL (dSl (dV 7) (oS (dV 8)) (oS (d2 a6 (dV 8) (dC (.int 2))))) (d1 g6 (dC (.int 1))))) (dSl (dV 7) (oS (d2 a6 (dV 8) (dC (.int 2)))) oN)))
def dW:DS:=(oi 6 (dM isS bW (dC (.str "\n")) (aC (dV 9) aN)))
def dX:DS:=(sFz 6 (fun ρ=>noex ((jm (putN 10) (mX (dV 6)) (lp [10] (sIf (tB' (d2 gNe (az 1 aW (aC (dV 10) aN)) (az 1 a5 (aC (dV 10) aN)))) (bq (dC (.bl false))) dN))) ρ)))
def dY:DS:=(bq (b5 (d2 gEq (d2 gEq (az 1 aZ (aC (dV 2) aN)) (dV 3)) (d2 gEq (dV 1) (dV 2))) (d2 gEq (az 1 a5 (aC (dV 3) aN)) (dV 1))))
def ef:DS:=(aL eE (aL eF (aL eG (aL eH (aL eI (aL eJ (aL eK (aL eM (aL eN (aL eO (aL dU (aL dW (aL dX dY)))))))))))))
def cW:List D→M D:=bZ 11 ef
end K1
namespace K1
open PySem PySem.Spec L2 L3
open PyProof.Rows hiding St
def top (i:Nat):Stmt:=PySem.Challenge.pw_cellpatches_k81_whole_read.main.body.getD i (.Pass ⟨0,0,0,0⟩)
structure Bl (K:PySem.W.Frag) (mg:Str→Option Value) (base:Heap) (cv:Nat→Value) (cA:Nat→Addr) (Cp:Addr):Prop where
 len:mg "len"=none
 isinstance:mg "isinstance"=none
 all:mg "all"=none
 range:mg "range"=none
 str:mg "str"=none
 tuple:mg "tuple"=none
 ValueError:mg "ValueError"=none
 LETTERS:∃t,mg "LETTERS"=some (.str "abcdef" t)
 MOST_ROWS:∃t,mg "MOST_ROWS"=some (.int 8 t)
 MOST_COLUMNS:∃t,mg "MOST_COLUMNS"=some (.int 8 t)
 cls0:mg "NoBoard"=some (.ref (cA 0))
 cls3:mg "NoLetter"=some (.ref (cA 3))
 cls7:mg "NoText"=some (.ref (cA 7))
 own7:OwnCls "NoText" (cA 7) [.type "ValueError", .type "Exception", .type "BaseException", .type "object"] "ValueError.__new__" mg base
 cvE:∀n,cv n= .ref (cB cA n)
 top:mg "PatchError"=some (.ref Cp)
 exm:∀n,PySem.W.exmOne K (cv n) (.ref Cp)=some true
 exs:∀C∈cAs cA,ExcC K C
 kit:∀n m,n∈[7]→m∈[0,3,7]→PySem.W.kitOne K (.ref (cA n)) (.ref (cA m))=some (decide (n=m))
 kitV:∀n,n∈[7]→PySem.W.kitOne K (.ref (cA n)) (.type "ValueError")=some true
section
variable {P : Program} {w : World} {K : PySem.W.Frag} {mg : Str → Option Value} {base : Heap} {cv : Nat → Value} {cA : Nat → Addr} {Cp : Addr} {f : Addr}
abbrev bh:Stmt:=top 9
def el:List Str:=["thing"]
def et:List Str:=["thing"]
theorem ij:FnScope el et (af bh):=⟨rfl,rfl,rfl,by decide+kernel,rfl,by decide+kernel,by decide+kernel⟩
theorem g7 (B:Bl K mg base cv cA Cp) (T:cb K mg "is_letter" bh f):ar P w K mg base cv 1 "is_letter" 1 (a8):=
 aQ (N:=el) (ps:=et) T ij (fun _ _ _ _ _ _ us hl=>match us,hl with | [_],_=>rfl) fun cdv A outer s H E hr=>
  (ax (aJ (jV (h7 rfl B.isinstance rfl (aa (ae (pv 0)) (aa (jf rfl B.str rfl) ah))) (jV (gB hr.units (b9 rfl B.len (aa (ae (pv 0)) ah)) ao) (mf (ph (ae (pv 0)) (nL rfl B.LETTERS (by decide))))))))
abbrev bg:Stmt:=top 14
def cF:List Str:=["rows"]
def fw:List Str:=["rows"]
theorem jq:FnScope cF fw (af bg):=⟨rfl,rfl,rfl,by decide+kernel,rfl,by decide+kernel,by decide+kernel⟩
theorem i8 (B:Bl K mg base cv cA Cp) (T:cb K mg "as_lines" bg f):ar P w K mg base cv 1 "as_lines" 1 (dc):=
 aQ (N:=cF) (ps:=fw) T jq (fun _ _ _ _ _ _ us hl=>match us,hl with | [_],_=>rfl) fun cdv A outer s H E hr=>
  (ax (aJ (km aP (aa (eX (tn:=["row"]) (n:=0) (cg (N:=cF) (osc:=(af bg)) rfl rfl (by decide+kernel)) rfl rfl (nN (jg (ae (pv 0))) (h9 (ae (pv 0)))) (fun _ _ _ _ _ _ _=>dP (show List.Nodup (((["row"]:List Str))++b6 ["row"] cF) by decide+kernel) rfl rfl) (fun _ _ _ _ _ _=>cT) (fun _ _ _ _ _ _=>(cG (ae (pv 0)) aP))) ah))))
abbrev bF:Stmt:=top 18
def ft:List Str:=["_law_script","_law_k"]
def fy:List Str:=["_law_script","_law_k"]
theorem js:FnScope ft fy (af bF):=⟨rfl,rfl,rfl,by decide+kernel,rfl,by decide+kernel,by decide+kernel⟩
theorem i_ (B:Bl K mg base cv cA Cp) (T:cb K mg "_law_cell" bF f):ar P w K mg base cv 1 "_law_cell" 2 (bU):=
 aQ (N:=ft) (ps:=fy) T js (fun _ _ _ _ _ _ us hl=>match us,hl with | [_,_],_=>rfl) fun cdv A outer s H E hr=>
  (ay (cH (mx hr.units (ae (pv 0)) (d6 ah)) (ax (aJ (dg ao (ae (pv 1))))) bR) (ax (aJ (aX (pj (ae (pv 0)) (d7 (ae (pv 1)) (b9 rfl B.len (aa (ae (pv 0)) ah)))) (dg ao (hJ (ae (pv 1)) (b9 rfl B.len (aa (ae (pv 0)) ah))))))))
abbrev b0:Stmt:=top 10
def dw:List Str:=["thing"]
def jb:List Str:=["thing"]
theorem lq:FnScope dw jb (af b0):=⟨rfl,rfl,rfl,by decide+kernel,rfl,by decide+kernel,by decide+kernel⟩
theorem k9 (B:Bl K mg base cv cA Cp) (c_is_letter:ar P w K mg base cv 1 "is_letter" 1 a8) (T:cb K mg "is_row" b0 f):ar P w K mg base cv 2 "is_row" 1 (bT):=
 aQ (N:=dw) (ps:=jb) T lq (fun _ _ _ _ _ _ us hl=>match us,hl with | [_],_=>rfl) fun cdv A outer s H E hr=>
  (ay (cH (PDW.t (jW (bP (bQ (h7 rfl B.isinstance rfl (aa (ae (pv 0)) (aa (jf rfl B.str rfl) ah))))) (ib (bP (mv kg kg ao (b9 rfl B.len (aa (ae (pv 0)) ah)) (kj rfl B.MOST_COLUMNS)))))) (ax (aJ ez)) bR) (ax (aJ (jU rfl rfl B.all rfl (aa (eX (tn:=["sign"]) (n:=0) (cg (N:=dw) (osc:=(af b0)) rfl rfl (by decide+kernel)) rfl rfl (nO (ae (pv 0))) (fun _ _ _ _ _ _ _=>dP (show List.Nodup (((["sign"]:List Str))++b6 ["sign"] dw) by decide+kernel) rfl rfl) (fun _ _ _ _ _ _=>cT) (fun _ _ _ _ _ _=>(bY c_is_letter (hr.mono (by decide)) rfl jc (aa (ae (pv 0)) ah) rfl))) ah)))))
abbrev bj:Stmt:=top 19
def en:List Str:=["_law_script","_law_k","_law_many","_law_cell_here"]
def ey:List Str:=["_law_script","_law_k","_law_many"]
theorem cI:FnScope en ey (af bj):=⟨rfl,rfl,rfl,by decide+kernel,rfl,by decide+kernel,by decide+kernel⟩
theorem g9 (B:Bl K mg base cv cA Cp) (c_law_cell:ar P w K mg base cv 1 "_law_cell" 2 bU) (T:cb K mg "_law_drawn" bj f):ar P w K mg base cv 2 "_law_drawn" 3 (ak):=
 aQ (N:=en) (ps:=ey) T cI (fun _ _ _ _ _ _ us hl=>match us,hl with | [_,_,_],_=>rfl) fun cdv A outer s H E hr=>
  (ay (aK cI.nd rfl (by first | exact .inl rfl | exact .inr rfl) (d7 (aX (dg (d7 (bY c_law_cell (hr.mono (by decide)) rfl bI (aa (ae (pv 0)) (aa (ae (pv 1)) ah)) rfl) ao) ao) (dg ao (aX (ae (pv 1)) ao))) ao)) (ay (aK cI.nd rfl (by first | exact .inl rfl | exact .inr rfl) (d7 (aX (dg (ae (pv 3)) (ae (pv 3))) (hJ (ae (pv 3)) ao)) ao)) (ax (aJ (d7 (hJ (d7 (aX (dg (ae (pv 3)) (ae (pv 3))) (hJ (ae (pv 3)) ao)) ao) ao) (ae (pv 2)))))))
abbrev a_:Stmt:=top 11
def bE:List Str:=["thing"]
def fx:List Str:=["thing"]
theorem jr:FnScope bE fx (af a_):=⟨rfl,rfl,rfl,by decide+kernel,rfl,by decide+kernel,by decide+kernel⟩
theorem i9 (B:Bl K mg base cv cA Cp) (c_is_row:ar P w K mg base cv 2 "is_row" 1 bT) (T:cb K mg "is_board" a_ f):ar P w K mg base cv 3 "is_board" 1 (aU):=
 aQ (N:=bE) (ps:=fx) T jr (fun _ _ _ _ _ _ us hl=>match us,hl with | [_],_=>rfl) fun cdv A outer s H E hr=>
  (ay (cH (PDW.t (jW (bP (bQ (h7 rfl B.isinstance rfl (aa (ae (pv 0)) (aa (jf rfl B.tuple rfl) ah))))) (ib (bP (mv kg kg ao (b9 rfl B.len (aa (ae (pv 0)) ah)) (kj rfl B.MOST_ROWS)))))) (ax (aJ ez)) bR) (ay (cH (bP (bQ (jU rfl rfl B.all rfl (aa (eX (tn:=["row"]) (n:=0) (cg (N:=bE) (osc:=(af a_)) rfl rfl (by decide+kernel)) rfl rfl (h9 (ae (pv 0))) (fun _ _ _ _ _ _ _=>dP (show List.Nodup (((["row"]:List Str))++b6 ["row"] bE) by decide+kernel) rfl rfl) (fun _ _ _ _ _ _=>cT) (fun _ _ _ _ _ _=>(bY c_is_row (hr.mono (by decide)) rfl jc (aa (ae (pv 0)) ah) rfl))) ah)))) (ax (aJ ez)) bR) (ax (aJ (jU rfl rfl B.all rfl (aa (eX (tn:=["row"]) (n:=0) (cg (N:=bE) (osc:=(af a_)) rfl rfl (by decide+kernel)) rfl rfl (h9 (ae (pv 0))) (fun _ _ _ _ _ _ _=>dP (show List.Nodup (((["row"]:List Str))++b6 ["row"] bE) by decide+kernel) rfl rfl) (fun _ _ _ _ _ _=>cT) (fun _ _ _ _ _ _=>(gB hr.units (b9 rfl B.len (aa (ae (pv 0)) ah)) (b9 rfl B.len (aa (pk (ae (pv 1)) ao) ah))))) ah))))))
abbrev ba:Stmt:=top 20
def b8:List Str:=["_law_script","_law_at","_law_most","_law_rows","_law_wide","_law_alphabet","_law_found","_law_row","_law_signs"]
def eu:List Str:=["_law_script","_law_at","_law_most"]
theorem aT:FnScope b8 eu (af ba):=⟨rfl,rfl,rfl,by decide+kernel,rfl,by decide+kernel,by decide+kernel⟩
theorem g8 (B:Bl K mg base cv cA Cp) (c_law_drawn:ar P w K mg base cv 2 "_law_drawn" 3 ak) (T:cb K mg "_law_board" ba f):ar P w K mg base cv 3 "_law_board" 3 (a9):=
 aQ (N:=b8) (ps:=eu) T aT (fun _ _ _ _ _ _ us hl=>match us,hl with | [_,_,_],_=>rfl) fun cdv A outer s H E hr=>
  (ay (aK aT.nd rfl (by first | exact .inl rfl | exact .inr rfl) (aX ao (bY c_law_drawn (hr.mono (by decide)) rfl bI (aa (ae (pv 0)) (aa (ae (pv 1)) (aa (ae (pv 2)) ah))) rfl))) (ay (aK aT.nd rfl (by first | exact .inl rfl | exact .inr rfl) (aX ao (bY c_law_drawn (hr.mono (by decide)) rfl bI (aa (ae (pv 0)) (aa (aX (ae (pv 1)) ao) (aa (ae (pv 2)) ah))) rfl))) (ay (aK aT.nd rfl (by first | exact .inl rfl | exact .inr rfl) (ma (d6 (aa aP (aa aP (aa aP (aa aP ah))))) (bY c_law_drawn (hr.mono (by decide)) rfl bI (aa (ae (pv 0)) (aa (aX (ae (pv 1)) ao) (aa ao ah))) rfl))) (ay (aK aT.nd rfl (by first | exact .inl rfl | exact .inr rfl) (mh ah)) (ay (kv (ku PassesOwn.never rfl (fF rfl B.range (aa (ae (pv 3)) ah)) (eY aT.nd rfl (by first | exact .inl rfl | exact .inr rfl)) jk (ji (ay (jj (tn:=["_law_k"]) (n:=0) aT.nd rfl (by first | exact .inl rfl | exact .inr rfl) (cg (N:=b8) (osc:=(af ba)) rfl rfl (by decide+kernel)) rfl rfl (fF rfl B.range (aa (ae (pv 4)) ah)) (fun _ _ _ _ _ _ _=>dP (show List.Nodup (((["_law_k"]:List Str))++b6 ["_law_k"] b8) by decide+kernel) rfl rfl) (fun _ _ _ _ _ _=>cT) (fun _ _ _ _ _ _=>(md (ae (pv 6)) (bY c_law_drawn (hr.mono (by decide)) rfl jc (aa (ae (pv 1)) (aa (aX (aX (aX (ae (pv 2)) ao) (dg ao (ae (pv 8)))) (ae (pv 0))) (aa (b9 rfl B.len (aa (ae (pv 6)) ah)) ah))) rfl)))) (ax (aK aT.nd rfl (by first | exact .inl rfl | exact .inr rfl) (nJ (ae (pv 6)) (mh (aa (km aP (aa (ae (pv 8)) ah)) ah))))))))) (ax (aJ (ae (pv 6)))))))))
abbrev bc:Stmt:=top 12
def dz:List Str:=["thing"]
def dE:List Str:=["thing"]
theorem fY:FnScope dz dE (af bc):=⟨rfl,rfl,rfl,by decide+kernel,rfl,by decide+kernel,by decide+kernel⟩
theorem fU (B:Bl K mg base cv cA Cp) (c_is_board:ar P w K mg base cv 3 "is_board" 1 aU) (T:cb K mg "need_board" bc f):ar P w K mg base cv 4 "need_board" 1 (bO):=
 aQ (N:=dz) (ps:=dE) T fY (fun _ _ _ _ _ _ us hl=>match us,hl with | [_],_=>rfl) fun cdv A outer s H E hr=>
  (ax (cH (bP (bQ (bY c_is_board (hr.mono (by decide)) rfl bI (aa (ae (pv 0)) ah) rfl))) (ax ll) bR))
abbrev be:Stmt:=top 16
def dB:List Str:=["text","board"]
def dF:List Str:=["text"]
theorem c8:FnScope dB dF (af be):=⟨rfl,rfl,rfl,by decide+kernel,rfl,by decide+kernel,by decide+kernel⟩
theorem fV (B:Bl K mg base cv cA Cp) (c_is_board:ar P w K mg base cv 3 "is_board" 1 aU) (T:cb K mg "read_board" be f):ar P w K mg base cv 4 "read_board" 1 (aE):=
 aQ (N:=dB) (ps:=dF) T c8 (fun _ _ _ _ _ _ us hl=>match us,hl with | [_],_=>rfl) fun cdv A outer s H E hr=>
  (ay (cH (PDW.t (jW (bP (bQ (h7 rfl B.isinstance rfl (aa (ae (pv 0)) (aa (jf rfl B.str rfl) ah))))) (ib (bP (bQ (jd (ae (pv 0)) (aa aP ah))))))) (ax (gD B.own7 PySem.F.excBase_ValueError rfl rfl (B.cvE 7) oC (aa aP ah))) bR) (ay (aK c8.nd rfl (by first | exact .inl rfl | exact .inr rfl) (je rfl B.tuple rfl (aa (fE (bA (ae (pv 0)) aF (aB (fC ao))) (aa aP ah)) ah))) (ay (cH (bP (bQ (bY c_is_board (hr.mono (by decide)) rfl bI (aa (ae (pv 1)) ah) rfl))) (ax (gD B.own7 PySem.F.excBase_ValueError rfl rfl (B.cvE 7) oC (aa aP ah))) bR) (ax (aJ (ae (pv 1)))))))
abbrev bS:Stmt:=top 24
def gz:List Str:=["_law_text","_law_lines","_law_found"]
def gA:List Str:=["_law_text"]
theorem dh:FnScope gz gA (af bS):=⟨rfl,rfl,rfl,by decide+kernel,rfl,by decide+kernel,by decide+kernel⟩
theorem jR (B:Bl K mg base cv cA Cp) (c_is_board:ar P w K mg base cv 3 "is_board" 1 aU) (T:cb K mg "_law_due" bS f):ar P w K mg base cv 4 "_law_due" 1 (a5):=
 aQ (N:=gz) (ps:=gA) T dh (fun _ _ _ _ _ _ us hl=>match us,hl with | [_],_=>rfl) fun cdv A outer s H E hr=>
  (ay (aK dh.nd rfl (by first | exact .inl rfl | exact .inr rfl) (fE (ae (pv 0)) (aa aP ah))) (ay (aK dh.nd rfl (by first | exact .inl rfl | exact .inr rfl) (je rfl B.tuple rfl (aa (bA (ae (pv 1)) aF (aB (fC ao))) ah))) (ax (aJ (qb (PDW.t (kq (mx hr.units (ma (ae (pv 1)) (fC ao)) aP) (jh (bQ (bY c_is_board (hr.mono (by decide)) rfl bI (aa (ae (pv 2)) ah) rfl))))) (ae (pv 2)) me)))))
abbrev bb:Stmt:=top 15
def dv:List Str:=["board"]
def dD:List Str:=["board"]
theorem fX:FnScope dv dD (af bb):=⟨rfl,rfl,rfl,by decide+kernel,rfl,by decide+kernel,by decide+kernel⟩
theorem fT (B:Bl K mg base cv cA Cp) (c_need_board:ar P w K mg base cv 4 "need_board" 1 bO) (c_as_lines:ar P w K mg base cv 1 "as_lines" 1 dc) (T:cb K mg "board_text" bb f):ar P w K mg base cv 5 "board_text" 1 (aZ):=
 aQ (N:=dv) (ps:=dD) T fX (fun _ _ _ _ _ _ us hl=>match us,hl with | [_],_=>rfl) fun cdv A outer s H E hr=>
  (ay (nX (bY c_need_board (hr.mono (by decide)) rfl bI (aa (ae (pv 0)) ah) rfl)) (ax (aJ (bY c_as_lines (hr.mono (by decide)) rfl bI (aa (ae (pv 0)) ah) rfl))))
theorem gZ (B:Bl K mg base cv cA Cp) {n m:Nat}(hn:n∈[7]) (hm:m∈[0,3,7]):eQ K (cAs cA) [.exc (cA n), .raw (.ref (cA m))]=M.ret (.bl (decide (n=m))):=by
 have h:cA n∈cAs cA:=by
  unfold cAs
  simp only[List.mem_cons,List.not_mem_nil,or_false] at hn
  rcases hn with rfl<;>simp
 show (if cA n∈cAs cA then(match PySem.W.kitOne K (.ref (cA n)) (.ref (cA m)) with | some b=>M.ret (D.bl b) | none=>M.stuck) else M.stuck)=_
 rw[if_pos h,B.kit n m hn hm]
theorem lP (B:Bl K mg base cv cA Cp) {n:Nat}(hn:n∈[7]):eQ K (cAs cA) [.exc (cA n), .raw (.ty "ValueError")]=M.ret (.bl true):=by
 have h:cA n∈cAs cA:=by
  unfold cAs
  simp only[List.mem_cons,List.not_mem_nil,or_false] at hn
  rcases hn with rfl<;>simp
 show (if cA n∈cAs cA then(match PySem.W.kitOne K (.ref (cA n)) (.type "ValueError") with | some b=>M.ret (D.bl b) | none=>M.stuck) else M.stuck)=_
 rw[if_pos h,B.kitV n hn]
theorem oh (k:Nat):rzI k∈[7]:=List.mem_singleton.mpr rfl
theorem hh (B:Bl K mg base cv cA Cp) (k:Nat) (ρ:Rho) (l:ρ.length=3) (e:ρ[1]? =some (some (.fz (.exc (cB cA k))))):(aL (bo 2 (dA bz (aC (dA (eQ K (cAs cA)) (aC (dV 1) (aC (dC (.raw (.ref (cA 7)))) aN))) (aC (dA (eQ K (cAs cA)) (aC (dV 1) (aC (dC (.raw (.ref (cA 0)))) aN))) (aC (dA (eQ K (cAs cA)) (aC (dV 1) (aC (dC (.raw (.ref (cA 3)))) aN))) aN))))) (sIf (jE (bu (dA (eQ K (cAs cA)) (aC (dV 1) (aC (dC (.raw (.ty "ValueError"))) aN)))) (tB' (d2 gEq (dV 2) (dA bz (aC (dC (.bl true)) (aC (dC (.bl false)) (aC (dC (.bl false)) aN))))))) (bq (dC .non)) dN)) ρ=(hdM k>>=fun d=>M.ret (.rt d)):=by
 obtain⟨v0,v1,v2,rfl⟩:∃v0 v1 v2,ρ=[v0,v1,v2]:=match ρ,l with | [v0,v1,v2],_=>⟨v0,v1,v2,rfl⟩
 cases (show v1=_ from Option.some.inj e)
 have hv:=lP B (n:=7) (by decide)
 have x0:=gZ B (n:=7) (m:=0) (by decide) (by decide)
 have x3:=gZ B (n:=7) (m:=3) (by decide) (by decide)
 have x7:=gZ B (n:=7) (m:=7) (by decide) (by decide)
 clear B
 have hc:cB cA k=cA 7:=rfl
 simp only[hc,hdM,hv,x0,x3,x7,aL,bo,dA,aC,aN,dV,dC,d1,d2,dM,jE,bt,bu,sIf,bq,dN,tB',ai,List.set_cons_zero,List.set_cons_succ,List.getElem?_cons_zero,List.getElem?_cons_succ,bz,List.length_cons,List.length_nil,Nat.reduceAdd,lim,Nat.reduceLeDiff,if_true,decide_true,decide_false,Nat.reduceEqDiff]
 rfl
abbrev aY:Stmt:=top 23
def cQ:List Str:=["_law_text","e","_law_flags"]
def cR:List Str:=["_law_text"]
theorem bL:FnScope cQ cR (af aY):=⟨rfl,rfl,rfl,by decide+kernel,rfl,by decide+kernel,by decide+kernel⟩
theorem eR (B:Bl K mg base cv cA Cp) (c_read_board:ar P w K mg base cv 4 "read_board" 1 aE) (T:cb K mg "_law_told" aY f):ar P w K mg base cv 5 "_law_told" 1 (aW):=
 aQ (N:=cQ) (ps:=cR) T bL (fun _ _ _ _ _ _ us hl=>match us,hl with | [_],_=>rfl) fun cdv A outer s H E hr=>
  (ay (nY (i:=1) (hd:=hdM) (τh:=(aL (bo 2 (dA bz (aC (dA (eQ K (cAs cA)) (aC (dV 1) (aC (dC (.raw (.ref (cA 7)))) aN))) (aC (dA (eQ K (cAs cA)) (aC (dV 1) (aC (dC (.raw (.ref (cA 0)))) aN))) (aC (dA (eQ K (cAs cA)) (aC (dV 1) (aC (dC (.raw (.ref (cA 3)))) aN))) aN))))) (sIf (jE (bu (dA (eQ K (cAs cA)) (aC (dV 1) (aC (dC (.raw (.ty "ValueError"))) aN)))) (tB' (d2 gEq (dV 2) (dA bz (aC (dC (.bl true)) (aC (dC (.bl false)) (aC (dC (.bl false)) aN))))))) (bq (dC .non)) dN))) B.cvE bL.nd rfl rfl rfl B.top B.exm (fun pn Ec Xw' hp=>(ax (aJ (bY c_read_board (hr.mono (by decide)) rfl hp (aa (ae (pv 0)) ah) rfl)))) (fun ea=>(ay (aK bL.nd rfl (by first | exact .inl rfl | exact .inr rfl) (d6 (aa (h8 B.exs rfl B.isinstance rfl (aa (ae (pv 1)) (aa (g_ rfl B.cls7) ah))) (aa (h8 B.exs rfl B.isinstance rfl (aa (ae (pv 1)) (aa (g_ rfl B.cls0) ah))) (aa (h8 B.exs rfl B.isinstance rfl (aa (ae (pv 1)) (aa (g_ rfl B.cls3) ah))) ah))))) (ax (cH (PDW.t (kq (bQ (h8 B.exs rfl B.isinstance rfl (aa (ae (pv 1)) (aa (jf rfl B.ValueError rfl) ah)))) (jh (mx hr.units (ae (pv 2)) (d6 (aa ez (aa ez (aa ez ah)))))))) (ax (aJ me)) bR)))) (fun k ρ l e=>hh B k ρ l e)) (ax (aJ ez)))
abbrev ag:Stmt:=top 25
def aA:List Str:=["_law_script","_law_board_here","_law_other","_law_text","_law_at","_law_sign","_law_texts","_law_lines","_law_to","_law_exchanged","_law_some"]
def d5:List Str:=["_law_script"]
theorem aD:FnScope aA d5 (af ag):=⟨rfl,rfl,rfl,by decide+kernel,rfl,by decide+kernel,by decide+kernel⟩
set_option maxHeartbeats 4000000 in
theorem ip (B:Bl K mg base cv cA Cp) (c_law_board:ar P w K mg base cv 3 "_law_board" 3 a9) {cdv:Value}{A:Around}{outer:List Env}{s:Shared}{H:Hp}{E:XK}(hr:Room 5 (A.deeper (envOfC "law" (af ag) s.heap.objs.size f cdv))):
 Box (PSD (av (CX1 P w cv) P w K mg base aA "law" (af ag) f cdv A outer s H E) (fun n H'=>E (cv n) none H') ((aq ag).getD 0 (.Pass ⟨0,0,0,0⟩)) eE):=
 ⟨(aK aD.nd rfl (by first | exact .inl rfl | exact .inr rfl) (bY c_law_board (hr.mono (by decide)) rfl bI (aa (ae (pv 0)) (aa ao (aa ao ah))) rfl))⟩
set_option maxHeartbeats 4000000 in
theorem iq (B:Bl K mg base cv cA Cp) (c_law_board:ar P w K mg base cv 3 "_law_board" 3 a9) {cdv:Value}{A:Around}{outer:List Env}{s:Shared}{H:Hp}{E:XK}(hr:Room 5 (A.deeper (envOfC "law" (af ag) s.heap.objs.size f cdv))):
 Box (PSD (av (CX1 P w cv) P w K mg base aA "law" (af ag) f cdv A outer s H E) (fun n H'=>E (cv n) none H') ((aq ag).getD 1 (.Pass ⟨0,0,0,0⟩)) eF):=
 ⟨(aK aD.nd rfl (by first | exact .inl rfl | exact .inr rfl) (bY c_law_board (hr.mono (by decide)) rfl bI (aa (ae (pv 0)) (aa ao (aa ao ah))) rfl))⟩
set_option maxHeartbeats 4000000 in
theorem ir (B:Bl K mg base cv cA Cp) (c_board_text:ar P w K mg base cv 5 "board_text" 1 aZ) {cdv:Value}{A:Around}{outer:List Env}{s:Shared}{H:Hp}{E:XK}(hr:Room 5 (A.deeper (envOfC "law" (af ag) s.heap.objs.size f cdv))):
 Box (PSD (av (CX1 P w cv) P w K mg base aA "law" (af ag) f cdv A outer s H E) (fun n H'=>E (cv n) none H') ((aq ag).getD 2 (.Pass ⟨0,0,0,0⟩)) eG):=
 ⟨(aK aD.nd rfl (by first | exact .inl rfl | exact .inr rfl) (bY c_board_text (hr.mono (by decide)) rfl bI (aa (ae (pv 1)) ah) rfl))⟩
set_option maxHeartbeats 4000000 in
theorem iu (B:Bl K mg base cv cA Cp) (c_law_drawn:ar P w K mg base cv 2 "_law_drawn" 3 ak) {cdv:Value}{A:Around}{outer:List Env}{s:Shared}{H:Hp}{E:XK}(hr:Room 5 (A.deeper (envOfC "law" (af ag) s.heap.objs.size f cdv))):
 Box (PSD (av (CX1 P w cv) P w K mg base aA "law" (af ag) f cdv A outer s H E) (fun n H'=>E (cv n) none H') ((aq ag).getD 3 (.Pass ⟨0,0,0,0⟩)) eH):=
 ⟨(aK aD.nd rfl (by first | exact .inl rfl | exact .inr rfl) (bY c_law_drawn (hr.mono (by decide)) rfl bI (aa (ae (pv 0)) (aa ao (aa (aX (b9 rfl B.len (aa (ae (pv 3)) ah)) ao) ah))) rfl))⟩
set_option maxHeartbeats 4000000 in
theorem iv (B:Bl K mg base cv cA Cp) (c_law_drawn:ar P w K mg base cv 2 "_law_drawn" 3 ak) {cdv:Value}{A:Around}{outer:List Env}{s:Shared}{H:Hp}{E:XK}(hr:Room 5 (A.deeper (envOfC "law" (af ag) s.heap.objs.size f cdv))):
 Box (PSD (av (CX1 P w cv) P w K mg base aA "law" (af ag) f cdv A outer s H E) (fun n H'=>E (cv n) none H') ((aq ag).getD 4 (.Pass ⟨0,0,0,0⟩)) eI):=
 ⟨(aK aD.nd rfl (by first | exact .inl rfl | exact .inr rfl) (md aP (bY c_law_drawn (hr.mono (by decide)) rfl bI (aa (ae (pv 0)) (aa ao (aa ao ah))) rfl)))⟩
set_option maxHeartbeats 4000000 in
theorem iw (B:Bl K mg base cv cA Cp) {cdv:Value}{A:Around}{outer:List Env}{s:Shared}{H:Hp}{E:XK}(hr:Room 5 (A.deeper (envOfC "law" (af ag) s.heap.objs.size f cdv))):
 Box (PSD (av (CX1 P w cv) P w K mg base aA "law" (af ag) f cdv A outer s H E) (fun n H'=>E (cv n) none H') ((aq ag).getD 5 (.Pass ⟨0,0,0,0⟩)) eJ):=
 ⟨(fH aD.nd rfl (by first | exact .inl rfl | exact .inr rfl) (nM (aa (ae (pv 3)) (aa (cG (bA (ae (pv 3)) aF (aB (ae (pv 4)))) (bA (ae (pv 3)) (aB (aX (ae (pv 4)) ao)) aF)) (aa (cG (bA (ae (pv 3)) aF (aB (aX (ae (pv 4)) ao))) (bA (ae (pv 3)) (aB (ae (pv 4))) aF)) (aa (cG (cG (bA (ae (pv 3)) aF (aB (ae (pv 4)))) (ae (pv 5))) (bA (ae (pv 3)) (aB (aX (ae (pv 4)) ao)) aF)) ah))))))⟩
set_option maxHeartbeats 4000000 in
theorem ix (B:Bl K mg base cv cA Cp) {cdv:Value}{A:Around}{outer:List Env}{s:Shared}{H:Hp}{E:XK}(hr:Room 5 (A.deeper (envOfC "law" (af ag) s.heap.objs.size f cdv))):
 Box (PSD (av (CX1 P w cv) P w K mg base aA "law" (af ag) f cdv A outer s H E) (fun n H'=>E (cv n) none H') ((aq ag).getD 6 (.Pass ⟨0,0,0,0⟩)) eK):=
 ⟨(ic (i:=6) (fH aD.nd rfl (by first | exact .inl rfl | exact .inr rfl) (ko (ae (pv 6)) (d6 (aa (cG (cG (bA (ae (pv 3)) aF (aB (ae (pv 4)))) (ae (pv 5))) (bA (ae (pv 3)) (aB (ae (pv 4))) aF)) (aa aP (aa aP (aa aP (aa aP (aa (bA (ae (pv 3)) aF (aB (fC ao))) (aa (kn (ae (pv 3)) ao) (aa (kn (ae (pv 3)) ao) ah))))))))))))⟩
set_option maxHeartbeats 4000000 in
theorem iy (B:Bl K mg base cv cA Cp) {cdv:Value}{A:Around}{outer:List Env}{s:Shared}{H:Hp}{E:XK}(hr:Room 5 (A.deeper (envOfC "law" (af ag) s.heap.objs.size f cdv))):
 Box (PSD (av (CX1 P w cv) P w K mg base aA "law" (af ag) f cdv A outer s H E) (fun n H'=>E (cv n) none H') ((aq ag).getD 7 (.Pass ⟨0,0,0,0⟩)) eM):=
 ⟨(aK aD.nd rfl (by first | exact .inl rfl | exact .inr rfl) (fE (ae (pv 3)) (aa aP ah)))⟩
set_option maxHeartbeats 4000000 in
theorem iz (B:Bl K mg base cv cA Cp) (c_law_drawn:ar P w K mg base cv 2 "_law_drawn" 3 ak) {cdv:Value}{A:Around}{outer:List Env}{s:Shared}{H:Hp}{E:XK}(hr:Room 5 (A.deeper (envOfC "law" (af ag) s.heap.objs.size f cdv))):
 Box (PSD (av (CX1 P w cv) P w K mg base aA "law" (af ag) f cdv A outer s H E) (fun n H'=>E (cv n) none H') ((aq ag).getD 8 (.Pass ⟨0,0,0,0⟩)) eN):=
 ⟨(aK aD.nd rfl (by first | exact .inl rfl | exact .inr rfl) (bY c_law_drawn (hr.mono (by decide)) rfl bI (aa (ae (pv 0)) (aa ao (aa (b9 rfl B.len (aa (ae (pv 7)) ah)) ah))) rfl))⟩
set_option maxHeartbeats 4000000 in
theorem iA (B:Bl K mg base cv cA Cp) {cdv:Value}{A:Around}{outer:List Env}{s:Shared}{H:Hp}{E:XK}(hr:Room 5 (A.deeper (envOfC "law" (af ag) s.heap.objs.size f cdv))):
 Box (PSD (av (CX1 P w cv) P w K mg base aA "law" (af ag) f cdv A outer s H E) (fun n H'=>E (cv n) none H') ((aq ag).getD 9 (.Pass ⟨0,0,0,0⟩)) eO):=
 ⟨(ic (i:=6) (fH aD.nd rfl (by first | exact .inl rfl | exact .inr rfl) (ko (ae (pv 6)) (d6 (aa (fB aP (aa (eW (bA (ae (pv 7)) aF (aB (ae (pv 8)))) (bA (ae (pv 7)) (aB (aX (ae (pv 8)) ao)) aF)) ah)) (aa (fB aP (aa (eW (bA (ae (pv 7)) aF (aB (aX (ae (pv 8)) ao))) (bA (ae (pv 7)) (aB (ae (pv 8))) aF)) ah)) ah))))))⟩
set_option maxHeartbeats 4000000 in
theorem f9 (B:Bl K mg base cv cA Cp) {cdv:Value}{A:Around}{outer:List Env}{s:Shared}{H:Hp}{E:XK}(hr:Room 5 (A.deeper (envOfC "law" (af ag) s.heap.objs.size f cdv))):
 Box (PSD (av (CX1 P w cv) P w K mg base aA "law" (af ag) f cdv A outer s H E) (fun n H'=>E (cv n) none H') ((aq ag).getD 10 (.Pass ⟨0,0,0,0⟩)) dU):=
 ⟨(aK aD.nd rfl (by first | exact .inl rfl | exact .inr rfl) (eW (eW (bA (ae (pv 7)) aF (aB (ae (pv 8)))) (nK (bA (ae (pv 7)) (aB (ae (pv 8))) (aB (aX (ae (pv 8)) ao))) (fC ao))) (bA (ae (pv 7)) (aB (aX (ae (pv 8)) ao)) aF)))⟩
set_option maxHeartbeats 4000000 in
theorem f_ (B:Bl K mg base cv cA Cp) {cdv:Value}{A:Around}{outer:List Env}{s:Shared}{H:Hp}{E:XK}(hr:Room 5 (A.deeper (envOfC "law" (af ag) s.heap.objs.size f cdv))):
 Box (PSD (av (CX1 P w cv) P w K mg base aA "law" (af ag) f cdv A outer s H E) (fun n H'=>E (cv n) none H') ((aq ag).getD 11 (.Pass ⟨0,0,0,0⟩)) dW):=
 ⟨(nW (pv 6) (fB aP (aa (ae (pv 9)) ah)))⟩
set_option maxHeartbeats 4000000 in
theorem gb (B:Bl K mg base cv cA Cp) (c_law_told_v16:ar P w K mg base cv 5 "_law_told" 1 aW) (c_law_due:ar P w K mg base cv 4 "_law_due" 1 a5) {cdv:Value}{A:Around}{outer:List Env}{s:Shared}{H:Hp}{E:XK}(hr:Room 5 (A.deeper (envOfC "law" (af ag) s.heap.objs.size f cdv))):
 Box (PSD (av (CX1 P w cv) P w K mg base aA "law" (af ag) f cdv A outer s H E) (fun n H'=>E (cv n) none H') ((aq ag).getD 12 (.Pass ⟨0,0,0,0⟩)) dX):=
 ⟨(ic (i:=6) (kv (ku PassesOwn.never rfl (jg (ae (pv 6))) (eY aD.nd rfl (by first | exact .inl rfl | exact .inr rfl)) jk (ji (ax (cH (qg hr.units (bY c_law_told_v16 (hr.mono (by decide)) rfl jc (aa (ae (pv 10)) ah) rfl) (bY c_law_due (hr.mono (by decide)) rfl jc (aa (ae (pv 10)) ah) rfl)) (ax (aJ ez)) bR))))))⟩
set_option maxHeartbeats 4000000 in
theorem gc (B:Bl K mg base cv cA Cp) (c_board_text:ar P w K mg base cv 5 "board_text" 1 aZ) (c_law_due:ar P w K mg base cv 4 "_law_due" 1 a5) {cdv:Value}{A:Around}{outer:List Env}{s:Shared}{H:Hp}{E:XK}(hr:Room 5 (A.deeper (envOfC "law" (af ag) s.heap.objs.size f cdv))):
 Box (PSD (av (CX1 P w cv) P w K mg base aA "law" (af ag) f cdv A outer s H E) (fun n H'=>E (cv n) none H') ((aq ag).getD 13 (.Pass ⟨0,0,0,0⟩)) dY):=
 ⟨(aJ (jV (gB hr.units (gB hr.units (bY c_board_text (hr.mono (by decide)) rfl bI (aa (ae (pv 2)) ah) rfl) (ae (pv 3))) (gB hr.units (ae (pv 1)) (ae (pv 2)))) (mf (gB hr.units (bY c_law_due (hr.mono (by decide)) rfl bI (aa (ae (pv 3)) ah) rfl) (ae (pv 1))))))⟩
set_option maxHeartbeats 4000000 in
theorem i7 {fd:FuncData}(B:Bl K mg base cv cA Cp) (c_law_board:ar P w K mg base cv 3 "_law_board" 3 a9) (c_board_text:ar P w K mg base cv 5 "board_text" 1 aZ) (c_law_drawn:ar P w K mg base cv 2 "_law_drawn" 3 ak) (c_law_told_v16:ar P w K mg base cv 5 "_law_told" 1 aW) (c_law_due:ar P w K mg base cv 4 "_law_due" 1 a5) (Fn:Fun K "law" "law" ag f fd):FnOk P w K mg base (CX1 P w cv) 6 f fd d5 (spD K cv 1 cW):=
 p6 (N:=aA) (ps:=d5) (τ:=ef) Fn aD fun cdv A outer s H E hr=>by
  obtain⟨hbx⟩:Box (PSDs (av (CX1 P w cv) P w K mg base aA "law" (af ag) f cdv A outer s H E) (fun n H'=>E (cv n) none H') (aq ag) ef):=(bB (ip B c_law_board hr) (bB (iq B c_law_board hr) (bB (ir B c_board_text hr) (bB (iu B c_law_drawn hr) (bB (iv B c_law_drawn hr) (bB (iw B hr) (bB (ix B hr) (bB (iy B hr) (bB (iz B c_law_drawn hr) (bB (iA B hr) (bB (f9 B hr) (bB (f_ B hr) (bB (gb B c_law_told_v16 c_law_due hr) (oU (gc B c_board_text c_law_due hr)))))))))))))))
  assumption
end
end K1
namespace K1
open PySem L2 L3
theorem i3 {ds:List D}(h:ds.length≤lim):bz ds=M.ret (.lst ds):=if_pos h
theorem cJ:lim=4096:=rfl
theorem e_ {α:Type}{xs:List α}{i:Nat}{x:α}(h:xs[i]? =some x):L2.atI xs (i:Int)=some x:=by
 obtain⟨hi,e⟩:=List.getElem?_eq_some_iff.mp h
 unfold L2.atI ixN
 rw[if_pos (Int.natCast_nonneg i),if_pos (by exact Int.ofNat_lt.mpr hi)]
 exact h
theorem aH {m:Nat}{g:List D→M D}{δs:DA}{ρ:Rho}{ds:List D}(h:δs ρ=M.ret ds) (hl:ds.length=m):az m g δs ρ=g ds:=by
 unfold az
 rw[h]
 exact if_pos hl
theorem cw {a:DE}{r:DA}{ρ:Rho}{x:D}{xs:List D}(h1:a ρ=M.ret x) (h2:r ρ=M.ret xs):aC a r ρ=M.ret (x::xs):=by
 unfold aC
 rw[h1,ai,h2]
 rfl
theorem bK {g:D→D→M D}{a b:DE}{ρ:Rho}{x y:D}(h1:a ρ=M.ret x) (h2:b ρ=M.ret y):d2 g a b ρ=g x y:=by
 unfold d2
 rw[h1,ai,h2]
 rfl
theorem gN {g:List D→M D}{a:DA}{ρ:Rho}{xs:List D}(h:a ρ=M.ret xs):dA g a ρ=g xs:=by
 unfold dA
 rw[h]
 rfl
theorem cn {i j:Int}(h:0<j):dq (.int i) (.int j)=M.ret (.int (i % j)):=by
 show (if decide (0<j)=true then _ else _)=_
 rw[if_pos (decide_eq_true h)]
theorem dn {i j:Int}(h:0<j) (h2:j<1073741824):fR (.int i) (.int j)=M.ret (.int (i / j)):=by
 show (if decide (0<j∧j<1073741824)=true then _ else _)=_
 rw[if_pos (decide_eq_true ⟨h,h2⟩)]
theorem cq {i j:Int}(h:(-(2 ^ 64)<i∧i<2 ^ 64)∨(-(2 ^ 64)<j∧j<2 ^ 64)):cO (.int i) (.int j)=M.ret (.int (i*j)):=by
 show (if decide _=true then _ else _)=_
 rw[if_pos (decide_eq_true h)]
theorem cM {i j:Int}:a6 (.int i) (.int j)=M.ret (.int (i+j)):=rfl
theorem lG (ns:List Int) (hl:ns.length≤63) (k:Nat):∃v,bU [.scr ns, .int (k:Int)]=M.ret (.int v):=by
 cases ns with
 |nil=>
  refine⟨7*(k:Int),?_⟩
  rfl
 |cons n r=>
  have hp:0<(n::r).length:=Nat.succ_pos _
  generalize e:(n::r)=ns at*
  have he:eqF 6 (.scr ns) (.lst [])=some false:=by subst e;rfl
  obtain⟨y,hy⟩:∃y,ns[k % ns.length]? =some y:=⟨_,List.getElem?_eq_getElem (Nat.mod_lt _ hp)⟩
  have hp':(0:Int)<(ns.length:Int):=by omega
  have h1:dq (.int (k:Int)) (.int (ns.length:Int))=M.ret (.int ((k % ns.length:Nat):Int)):=cn hp'
  have h2:fR (.int (k:Int)) (.int (ns.length:Int))=M.ret (.int ((k:Int) / (ns.length:Int))):=dn hp' (by omega)
  have h3:lN (.scr ns) (.int ((k % ns.length:Nat):Int))=M.ret (.int y):=by
   show (match L2.atI ns ((k % ns.length:Nat):Int) with | some n=>M.ret (D.int n) | none=>M.stuck)=_
   rw[e_ hy]
  have h4:cO (.int 6553) (.int ((k:Int) / (ns.length:Int)))=M.ret (.int (6553*((k:Int) / (ns.length:Int)))):=cq (.inl ⟨by decide,by decide⟩)
  refine⟨y+6553*((k:Int) / (ns.length:Int)),?_⟩
  simp only[bU,fO,bZ,aL,sIf,bq,dN,tB',d2,dV,dC,dA,aC,aN,bz,bp,blM,gEq,he,ai,h1,h2,h3,h4,List.map_cons,List.map_nil,List.cons_append,List.nil_append,List.length_cons,List.length_nil,List.getElem?_cons_zero,List.getElem?_cons_succ,cJ,Nat.reduceAdd,Nat.zero_le,if_true,Bool.false_eq_true,if_false,a6,gI]
theorem ck (ns:List Int) (hl:ns.length≤63) (k m:Nat) (hm:0<m):∃v:Nat,v<m∧ak [.scr ns, .int (k:Int), .int (m:Int)]=M.ret (.int (v:Int)):=by
 obtain⟨c,hc⟩:=lG ns hl k
 have b1:=Int.emod_nonneg (c % 2147483563*69069+104723*((k:Int)+1)) (b:=2147483563) (by decide)
 have b2:=Int.emod_lt_of_pos (c % 2147483563*69069+104723*((k:Int)+1)) (b:=2147483563) (by decide)
 generalize hx:(c % 2147483563*69069+104723*((k:Int)+1)) % 2147483563=x at b1 b2
 have b3:=Int.emod_nonneg (x*x+x / 3) (b:=2147483399) (by decide)
 have b4:=Int.emod_lt_of_pos (x*x+x / 3) (b:=2147483399) (by decide)
 generalize hy:(x*x+x / 3) % 2147483399=y at b3 b4
 have m1:cO (.int (c % 2147483563)) (.int 69069)=_:=cq (.inr ⟨by decide,by decide⟩)
 have m2:cO (.int 104723) (.int ((k:Int)+1))=_:=cq (.inl ⟨by decide,by decide⟩)
 have m3:cO (.int x) (.int x)=_:=cq (.inl ⟨by omega,by omega⟩)
 have m4:cO (.int y) (.int y)=_:=cq (.inl ⟨by omega,by omega⟩)
 have hM:(0:Int)<(m:Int):=Int.ofNat_lt.mpr hm
 have n1:=Int.emod_nonneg ((y*y+y / 7) % 2147483647 / 11) (b:=(m:Int)) (by omega)
 have n2:=Int.emod_lt_of_pos ((y*y+y / 7) % 2147483647 / 11) hM
 have q1:dq (.int c) (.int 2147483563)=_:=cn (by decide)
 have q2:dq (.int (c % 2147483563*69069+104723*((k:Int)+1))) (.int 2147483563)=_:=cn (by decide)
 have q3:fR (.int x) (.int 3)=_:=dn (by decide) (by decide)
 have q4:dq (.int (x*x+x / 3)) (.int 2147483399)=_:=cn (by decide)
 have q5:fR (.int y) (.int 7)=_:=dn (by decide) (by decide)
 have q6:dq (.int (y*y+y / 7)) (.int 2147483647)=_:=cn (by decide)
 have q7:fR (.int ((y*y+y / 7) % 2147483647)) (.int 11)=_:=dn (by decide) (by decide)
 have q8:dq (.int ((y*y+y / 7) % 2147483647 / 11)) (.int (m:Int))=_:=cn hM
 refine⟨((y*y+y / 7) % 2147483647 / 11 % (m:Int)).toNat,by omega,?_⟩
 rw[Int.toNat_of_nonneg n1]
 rw[hx] at q2
 rw[hy] at q4
 simp only[ak,eD,bZ,aL,bo,bq,az,d2,dV,dC,dA,aC,aN,ai,hc,List.map_cons,List.map_nil,List.cons_append,List.nil_append,List.length_cons,List.length_nil,List.getElem?_cons_zero,List.getElem?_cons_succ,List.replicate,List.set_cons_zero,List.set_cons_succ,Nat.reduceAdd,Nat.reduceSub,if_true,cM,m1,m2,m3,m4,q1,q2,q3,q4,q5,q6,q7,q8]
theorem lW {α:Type}(a:α):noex (M.ret a)=M.ret a:=rfl
theorem iR {put:D→Rho→Option Rho}{body:DS}{I:Nat→Rho→Prop}:∀(ds:List D) (i:Nat) (ρ:Rho),I i ρ→
 (∀j d,ds[j]? =some d→∀ρ,I (i+j) ρ→∃ρ1 ρ2,put d ρ=some ρ1∧body ρ1=M.ret (.nx ρ2)∧I (i+j+1) ρ2)→∃ρ',forL put body ds ρ=M.ret (.nx ρ')∧I (i+ds.length) ρ'
 |[],i,ρ,h,_=>⟨ρ,rfl,h⟩
 |d::ds,i,ρ,h,step=>by
  obtain⟨ρ1,ρ2,e1,e2,h2⟩:=step 0 d rfl ρ h
  obtain⟨ρ',e3,h3⟩:=iR (I:=I) ds (i+1) ρ2 h2 fun j d' hd ρ hI=>by
   have:=step (j+1) d' hd ρ (by rw[show i+(j+1)=i+1+j by omega];exact hI)
   rw[show i+(j+1)+1=i+1+j+1 by omega] at this
   exact this
  refine⟨ρ',?_,?_⟩
  ·show (match put d ρ with | none=>M.stuck | some ρ1=>body ρ1>>=fun o=>match o with | .nx ρ2=>forL put body ds ρ2 | .rt v=>M.ret (.rt v))=_
   rw[e1]
   show (body ρ1>>=fun o=>match o with | .nx ρ2=>forL put body ds ρ2 | .rt v=>M.ret (.rt v))=_
   rw[e2]
   exact e3
  ·rw[show i+(d::ds).length=i+1+ds.length by simp;omega]
   exact h3
theorem gm {f:D→M (Option D)}{Pr:D→Prop}:∀(ds:List D),(∀d∈ds,∃y,f d=M.ret (some y)∧Pr y)→∃ys,bw f ds=M.ret ys∧ys.length=ds.length∧∀y∈ys,Pr y
 |[],_=>⟨[],rfl,rfl,fun _ h=>by cases h⟩
 |d::ds,h=>by
  obtain⟨y,e,hy⟩:=h d (List.mem_cons_self ..)
  obtain⟨ys,e2,hl,hp⟩:=gm ds fun d' hd=>h d' (List.mem_cons_of_mem _ hd)
  refine⟨y::ys,?_,by simp[hl],fun z hz=>?_⟩
  ·rw[da,e,ai,e2]
   rfl
  ·cases hz with
   |head=>exact hy
   |tail _ hz=>exact hp z hz
theorem cf {f:D→M (Option D)}{g:D→D}:∀(ds:List D),(∀d∈ds,f d=M.ret (some (g d)))→bw f ds=M.ret (ds.map g)
 |[],_=>rfl
 |d::ds,h=>by
  rw[da,h d (List.mem_cons_self ..),ai,cf ds fun d' hd=>h d' (List.mem_cons_of_mem _ hd)]
  rfl
def inL (x:Str):Bool:=!(Builtin.Str.occurrences ("abcdef":Str) x 0 ("abcdef":Str).length 1).isEmpty
structure Row (W:Nat) (r:Str):Prop where
 len:r.length=W
 let':∀c∈r.cps.toList,inL ⟨#[c]⟩=true
structure Good (bd:List Str) (W:Nat):Prop where
 r1:1≤bd.length
 r5:bd.length≤5
 w1:1≤W
 w5:W≤5
 rows:∀r∈bd,Row W r
theorem jy:∀(ys:List D),(∀y∈ys,∃c,y= .str ⟨#[c]⟩∧inL ⟨#[c]⟩=true)→∃xs,dQ ys=some xs∧xs.length=ys.length∧(xs.map (·.length)).sum=ys.length∧Row ys.length (br xs)
 |[],_=>⟨[],rfl,rfl,rfl,rfl,fun c h=>by cases h⟩
 |y::ys,h=>by
  obtain⟨c,e,hc⟩:=h y (List.mem_cons_self ..)
  obtain⟨xs,e1,e2,e3,e4⟩:=jy ys fun z hz=>h z (List.mem_cons_of_mem _ hz)
  subst e
  refine⟨⟨#[c]⟩::xs,?_,by simp[e2],?_,?_,fun z hz=>?_⟩
  ·show (dQ ys).map _=_
   rw[e1]
   rfl
  ·rw[List.map_cons,List.sum_cons,e3]
   show 1+ys.length=_
   simp
   omega
  ·show ((⟨#[c]⟩:Str)++br xs).length=_
   rw[aO,e4.len]
   show 1+ys.length=_
   simp
   omega
  ·have hz:z∈((⟨#[c]⟩:Str)++br xs).cps.toList:=hz
   have:((⟨#[c]⟩:Str)++br xs).cps= #[c]++(br xs).cps:=rfl
   rw[this] at hz
   have hz:z∈c::(br xs).cps.toList:=by simpa using hz
   cases hz with
   |head=>exact hc
   |tail _ hz=>exact e4.let' z hz
theorem mG {lo:Int}{n:Nat}{d:D}(h:d∈dI lo n):∃i:Nat,i<n∧d= .int (lo+(i:Int)):=by
 unfold dI at h
 obtain⟨i,hi,e⟩:=List.mem_map.mp h
 exact⟨i,List.mem_range.mp hi,e.symm⟩
theorem n9 {lo:Int}{n j:Nat}{d:D}(h:(dI lo n)[j]? =some d):j<n∧d= .int (lo+(j:Int)):=by
 unfold dI at h
 rw[List.getElem?_map] at h
 by_cases hj:j<n
 ·rw[List.getElem?_range hj] at h
  cases h
  exact⟨hj,rfl⟩
 ·rw[List.getElem?_eq_none (by simpa using hj)] at h
  cases h
theorem dJ (lo:Int) (n:Nat):(dI lo n).length=n:=by simp[dI]
abbrev fz (d:D):Option Sl:=some (.fz d)
theorem fi {δe:DE}{ρ:Rho}{d:D}:cL 0 bN δe ρ d=(δe (fz d::ρ)>>=fun y=>M.ret (some y)):=rfl
theorem aw {a b:DS}{ρ ρ':Rho}{o:M Out}(h:a ρ=M.ret (.nx ρ')) (h2:b ρ'=o):aL a b ρ=o:=by
 unfold aL
 rw[h]
 exact h2
theorem c4 {a b:DS}{ρ:Rho}{d:D}(h:a ρ=M.ret (.rt d)):aL a b ρ=M.ret (.rt d):=by
 unfold aL
 rw[h]
 rfl
theorem aG {i:Nat}{δ:DE}{ρ:Rho}{d:D}(h:δ ρ=M.ret d):bo i δ ρ=M.ret (.nx (ρ.set i (fz d))):=by
 unfold bo
 rw[h]
 rfl
theorem fL {c:DT}{a b:DS}{ρ:Rho}{o:M Out}(h:c ρ=M.ret true) (h2:a ρ=o):sIf c a b ρ=o:=by
 unfold sIf
 rw[h]
 exact h2
theorem fK {c:DT}{a b:DS}{ρ:Rho}{o:M Out}(h:c ρ=M.ret false) (h2:b ρ=o):sIf c a b ρ=o:=by
 unfold sIf
 rw[h]
 exact h2
theorem aS {δ:DE}{ρ:Rho}{d:D}(h:δ ρ=M.ret d):bq δ ρ=M.ret (.rt d):=by
 unfold bq
 rw[h]
 rfl
theorem mI {δ:DE}{ρ:Rho}{d:D}(h:δ ρ=M.ret d):mH δ ρ=M.ret (.nx ρ):=by
 unfold mH
 rw[h]
 rfl
theorem bH {n:Nat}{τ:DS}{ds:List D}{d:D}(h:τ (ds.map (fun d=>some (Sl.fz d))++List.replicate (n - ds.length) none)=M.ret (.rt d)):bZ n τ ds=M.ret d:=by
 unfold bZ
 rw[h]
 rfl
theorem oa {n:Nat}{τ:DS}{ds:List D}{ρ:Rho}(h:τ (ds.map (fun d=>some (Sl.fz d))++List.replicate (n - ds.length) none)=M.ret (.nx ρ)):bZ n τ ds=M.ret .non:=by
 unfold bZ
 rw[h]
 rfl
theorem kz {n k:Nat}{τ:DS}{ds:List D}(h:τ (ds.map (fun d=>some (Sl.fz d))++List.replicate (n - ds.length) none)=M.raise k):bZ n τ ds=M.raise k:=by
 unfold bZ
 rw[h]
 rfl
theorem mJ {put:D→Rho→Option Rho}{δi:DA}{b:DS}{ρ:Rho}{ds:List D}{o:Out}(h:δi ρ=M.ret ds) (h2:forL put b ds ρ=M.ret o):noex (jm put δi b ρ)=M.ret o:=by
 unfold jm
 rw[h,ai,h2]
 rfl
theorem kA {is:List Nat}{τ:DS}{ρ ρ':Rho}(h:τ ρ=M.ret (.nx ρ')):lp is τ ρ=M.ret (.nx (fgt is ρ')):=by
 unfold lp
 rw[h]
 rfl
theorem cj {n:Nat}{δi:DA}{δt:DT}{δe:DE}{ρ:Rho}{ds ys:List D}(h:δi ρ=M.ret ds) (h2:bw (cL n δt δe ρ) ds=M.ret ys) (h3:ys.length≤lim):bf n δi δt δe ρ=M.ret (.lst ys):=by
 unfold bf
 rw[h,ai,h2,lW,ai,i3 h3]
theorem gF {n:Nat}(h:n≤4096):gE [.int (n:Int)]=M.ret (dI 0 n):=by
 show (if -4096≤(n:Int)∧(n:Int)≤4096 then M.ret (dI 0 (n:Int).toNat) else M.stuck)=_
 rw[if_pos ⟨by omega,by omega⟩]
 rfl
structure Alpha (al:Str):Prop where
 pos:0<al.length
 ok:∀c∈al.cps.toList,inL ⟨#[c]⟩=true
theorem oO:Alpha "ab"∧Alpha "abc"∧Alpha "aab"∧Alpha "fa":=by
 refine⟨⟨by decide+kernel,?_⟩,⟨by decide+kernel,?_⟩,⟨by decide+kernel,?_⟩,⟨by decide+kernel,?_⟩⟩<;>decide+kernel
theorem iU {x:Str}{i:Nat}(h:i<x.length):∃c,c∈x.cps.toList∧x.cps.toList[i]? =some c∧iT (.str x) (.int (i:Int))=M.ret (.str ⟨#[c]⟩):=by
 have h:i<x.cps.toList.length:=by rw[Array.length_toList];exact h
 refine⟨x.cps.toList[i],List.getElem_mem h,List.getElem?_eq_getElem h,?_⟩
 show (match L2.atI x.cps.toList (i:Int) with | some c=>M.ret (D.str ⟨#[c]⟩) | none=>M.stuck)=_
 rw[e_ (List.getElem?_eq_getElem h)]
abbrev brd (bd:List Str):D:= .tup (bd.map D.str)
abbrev sgn (at' mo:Nat) (ns:List Int) (W:Nat) (al:Str) (bd:List Str) (R:Nat) (x7 x8:Option Sl):Rho:=[fz (.scr ns),fz (.int (at':Int)),fz (.int (mo:Int)),fz (.int (R:Int)),fz (.int (W:Int)),fz (.str al),fz (brd bd),x7,x8]
def δsg:DE:=bf 0 (fun ρ=>(aC (dV 4) aN) ρ>>=gE) bN (d2 iT (dV 6) (az 3 ak (aC (dV 1) (aC (d2 a6 (d2 a6 (d2 a6 (dV 2) (dC (.int 3))) (d2 cO (dC (.int 7)) (dV 8))) (dV 0)) (aC (dA bp (aC (dV 6) aN)) aN)))))
theorem lr (at' mo:Nat) (ns:List Int) (hl:ns.length≤63) (al:Str) (ha:Alpha al) (j W R:Nat) (hW:W≤5) (bd:List Str) (x8:Option Sl):
 ∃ys,δsg (sgn at' mo ns W al bd R (fz (.int (0+(j:Int)))) x8)=M.ret (.lst ys)∧ys.length=W∧∀y∈ys,∃c,y= .str ⟨#[c]⟩∧inL ⟨#[c]⟩=true:=by
 obtain⟨ys,e,hl',hp⟩:=gm (f:=cL 0 bN (d2 iT (dV 6) (az 3 ak (aC (dV 1) (aC (d2 a6 (d2 a6 (d2 a6 (dV 2) (dC (.int 3))) (d2 cO (dC (.int 7)) (dV 8))) (dV 0)) (aC (dA bp (aC (dV 6) aN)) aN)))))
  (sgn at' mo ns W al bd R (fz (.int (0+(j:Int)))) x8)) (Pr:=fun y=>∃c,y= .str ⟨#[c]⟩∧inL ⟨#[c]⟩=true) (dI 0 W) fun d hd=>by
  obtain⟨i,hi,rfl⟩:=mG hd
  obtain⟨v,hv,e⟩:=ck ns hl (at'+3+7*j+i) al.length ha.pos
  obtain⟨c,hc,_,e2⟩:=iU hv
  refine⟨.str ⟨#[c]⟩,?_,c,rfl,ha.ok c hc⟩
  rw[fi]
  have k:(at':Int)+3+7*(0+(j:Int))+(0+(i:Int))=((at'+3+7*j+i:Nat):Int):=by omega
  have m1:cO (.int 7) (.int (0+(j:Int)))=M.ret (.int (7*(0+(j:Int)))):=cq (.inl ⟨by decide,by decide⟩)
  simp only[az,d2,dV,dC,dA,aC,aN,ai,List.length_cons,List.length_nil,List.getElem?_cons_zero,List.getElem?_cons_succ,Nat.reduceAdd,if_true,cM,m1,k,bp,e,e2]
 refine⟨ys,cj (gF (n:=W) (by omega)) e (by rw[hl',dJ,cJ];omega),by rw[hl',dJ],hp⟩
def τct:DS:=bo 6 (d2 iS (dV 6) (dA i4 (aC (dM isS joinM (dC (.str "")) (aC (dV 8) aN)) aN)))
theorem mV (at' mo:Nat) (ns:List Int) (W:Nat) (al:Str) (bd:List Str) (R:Nat) (x7:Option Sl) (ys:List D) (hb:bd.length≤5) (hy:ys.length≤5) (s3:∀y∈ys,∃c,y= .str ⟨#[c]⟩∧inL ⟨#[c]⟩=true):
 ∃r,Row ys.length r∧τct (sgn at' mo ns W al bd R x7 (fz (.lst ys)))=M.ret (.nx (sgn at' mo ns W al (bd++[r]) R x7 (fz (.lst ys)))):=by
 obtain⟨xs,t1,t2,t3,t4⟩:=jy ys s3
 refine⟨br xs,t4,?_⟩
 have jn:joinM (.str "") [.lst ys]=M.ret (.str (br xs)):=by
  show (match dQ ys with | some (xs:List Str)=>if ("":Str).length=0∧(xs.map (fun x:Str=>x.length)).sum≤lim then M.ret (D.str (br xs)) else M.stuck | none=>M.stuck)=_
  rw[t1]
  show (if ("":Str).length=0∧(xs.map (fun x:Str=>x.length)).sum≤lim then M.ret (D.str (br xs)) else M.stuck)=_
  rw[if_pos ⟨rfl,by rw[t3,cJ];omega⟩]
 have ct:iS (brd bd) (.tup [.str (br xs)])=M.ret (brd (bd++[br xs])):=by
  show (if (bd.map D.str).length+1≤lim then M.ret (D.tup (bd.map D.str++[.str (br xs)])) else M.stuck)=_
  rw[if_pos (by rw[List.length_map,cJ];omega)]
  simp[brd]
 refine(aG (d:=brd (bd++[br xs])) ?_).trans rfl
 simp only[d2,dV,dC,dA,aC,aN,dM,isS,ai,List.getElem?_cons_zero,List.getElem?_cons_succ,if_true,jn,i4,List.length_cons,List.length_nil,cJ,Nat.reduceAdd,Nat.reduceLeDiff,ct]
theorem gj (ns:List Int) (hl:ns.length≤63) (at' mo:Nat) (m0:0<mo) (m5:mo≤5):∃bd W,Good bd W∧a9 [.scr ns, .int (at':Int), .int (mo:Int)]=M.ret (brd bd):=by
 obtain⟨r,hr,e1⟩:=ck ns hl at' mo m0
 obtain⟨c,hc,e2⟩:=ck ns hl (at'+1) mo m0
 obtain⟨a,ha,e3⟩:=ck ns hl (at'+2) 4 (by decide)
 obtain⟨al,hal,e4⟩:∃al,Alpha al∧jM (.lst [.str "ab", .str "abc", .str "aab", .str "fa"]) (.int (a:Int))=M.ret (.str al):=by
  obtain⟨a1,a2,a3,a4⟩:=oO
  match a,ha with
  |0,_=>exact⟨_,a1,rfl⟩
  |1,_=>exact⟨_,a2,rfl⟩
  |2,_=>exact⟨_,a3,rfl⟩
  |3,_=>exact⟨_,a4,rfl⟩
 have k1:(1:Int)+(r:Int)=((r+1:Nat):Int):=by omega
 have k2:(1:Int)+(c:Int)=((c+1:Nat):Int):=by omega
 have e1':ak [.scr ns, .int (at':Int), .int (mo:Int)]=M.ret (.int (r:Int)):=e1
 have e2':ak [.scr ns, .int ((at':Int)+1), .int (mo:Int)]=M.ret (.int (c:Int)):=e2
 have e3':ak [.scr ns, .int ((at':Int)+2), .int 4]=M.ret (.int (a:Int)):=e3
 obtain⟨ρ',f1,bd,f2,f3,f4⟩:=iR (put:=putN 7) (body:=lp [7,8] (aL (bo 8 δsg) τct))
  (I:=fun i ρ=>∃bd,ρ=sgn at' mo ns (c+1) al bd (r+1) none none∧bd.length=i∧∀z∈bd,Row (c+1) z)
  (dI 0 (r+1)) 0 (sgn at' mo ns (c+1) al [] (r+1) none none) ⟨[],rfl,rfl,fun _ h=>by cases h⟩ fun j d hd ρ ⟨bd,hρ,hb,hw⟩=>by
   obtain⟨hj,rfl⟩:=n9 hd
   subst hρ
   obtain⟨ys,s1,s2,s3⟩:=lr at' mo ns hl al hal j (c+1) (r+1) (by omega) bd none
   obtain⟨rw',t1,t2⟩:=mV at' mo ns (c+1) al bd (r+1) (fz (.int (0+(j:Int)))) ys (by omega) (by omega) s3
   refine⟨_,_,rfl,kA (aw (aG s1) t2),bd++[rw'],rfl,by simp[hb],fun z hz=>?_⟩
   rcases List.mem_append.mp hz with h | h
   ·exact hw z h
   ·have h:z=rw':=by simpa using h
    subst h
    rw[s2] at t1
    exact t1
 refine⟨bd,c+1,⟨by rw[f3,dJ];omega,by rw[f3,dJ];omega,by omega,by omega,f4⟩,?_⟩
 subst f2
 refine bH ?_
 refine aw (aG (d:= .int ((r+1:Nat):Int)) ?_) ?_
 ·simp only[az,d2,dV,dC,aC,aN,ai,List.map_cons,List.map_nil,List.cons_append,List.nil_append,List.length_cons,List.length_nil,List.getElem?_cons_zero,List.getElem?_cons_succ,Nat.reduceAdd,if_true,cM,e1',k1]
 refine aw (aG (d:= .int ((c+1:Nat):Int)) ?_) ?_
 ·simp only[az,d2,dV,dC,aC,aN,ai,List.map_cons,List.map_nil,List.cons_append,List.nil_append,List.length_cons,List.length_nil,List.replicate,List.set_cons_zero,List.set_cons_succ,Nat.reduceSub,List.getElem?_cons_zero,List.getElem?_cons_succ,Nat.reduceAdd,if_true,cM,e2',k2]
 refine aw (aG (d:= .str al) ?_) ?_
 ·simp only[az,d2,dV,dC,dA,aC,aN,ai,List.map_cons,List.map_nil,List.cons_append,List.nil_append,List.length_cons,List.length_nil,List.replicate,List.set_cons_zero,List.set_cons_succ,Nat.reduceSub,List.getElem?_cons_zero,List.getElem?_cons_succ,Nat.reduceAdd,if_true,cM,e3',bz,cJ,Nat.reduceLeDiff,e4]
 refine aw (aG (d:= .tup []) rfl) ?_
 refine aw (mJ (gF (n:=r+1) (by omega)) f1) ?_
 exact aS rfl
def Plain:D→Prop
 | .non | .bl _ | .int _ | .str _ | .tup _ | .lst _=>True
 |_=>False
def isStr:D→Bool
 | .str _=>true
 |_=>false
def isTup:D→Bool
 | .tup _=>true
 |_=>false
theorem b7 {d:D}(h:Plain d):de [d, .raw (.ty "str")]=M.ret (.bl (isStr d)):=by
 cases d<;>first | rfl | exact h.elim
theorem j_ {d:D}(h:Plain d):de [d, .raw (.ty "tuple")]=M.ret (.bl (isTup d)):=by
 cases d<;>first | rfl | exact h.elim
def g4:D→Bool
 | .str x=>(x.length==1)&&inL x
 |_=>false
theorem jG {ρ:Rho}{i:Nat}{d:D}(h:ρ[i]? =some (fz d)):dV i ρ=M.ret d:=by
 unfold dV
 rw[h]
theorem eq_int (i j:Int):gEq (.int i) (.int j)=M.ret (.bl (i==j)):=rfl
theorem len_str (x:Str):bp [.str x]=M.ret (.int (x.length:Int)):=rfl
theorem in_str (x:Str):lM false (.str x) (.str "abcdef")=M.ret (.bl (inL x)):=rfl
theorem lV (a b:Nat):((a:Int)==(b:Int))=(a==b):=by
 by_cases h:a=b
 ·subst h;simp
 ·have h2:¬(a:Int)=(b:Int):=by omega
  rw[beq_eq_false_iff_ne.mpr h,beq_eq_false_iff_ne.mpr h2]
theorem ni {d:D}(h:Plain d) {i:Nat}{ρ:Rho}(hρ:ρ[i]? =some (fz d)):
 b5 (dA de (aC (dV i) (aC (dC (.raw (.ty "str"))) aN))) (b5 (d2 gEq (dA bp (aC (dV i) aN)) (dC (.int 1))) (d2 (lM false) (dV i) (dC (.str "abcdef")))) ρ=M.ret (.bl (g4 d)):=by
 have hv:=jG hρ
 have e1:=lV
 cases d with
 |str x=>
  have k:((x.length:Int)==1)=(x.length==1):=lV x.length 1
  simp only[b5,dA,aC,aN,dC,d2,hv,ai,b7 h,isStr,blM,if_true,len_str,eq_int,k,in_str,g4]
  cases x.length==1<;>rfl
 |non=>simp only[b5,dA,aC,aN,dC,d2,hv,ai,b7 h,isStr,blM,if_false,Bool.false_eq_true,g4]
 |bl b=>simp only[b5,dA,aC,aN,dC,d2,hv,ai,b7 h,isStr,blM,if_false,Bool.false_eq_true,g4]
 |int b=>simp only[b5,dA,aC,aN,dC,d2,hv,ai,b7 h,isStr,blM,if_false,Bool.false_eq_true,g4]
 |tup b=>simp only[b5,dA,aC,aN,dC,d2,hv,ai,b7 h,isStr,blM,if_false,Bool.false_eq_true,g4]
 |lst b=>simp only[b5,dA,aC,aN,dC,d2,hv,ai,b7 h,isStr,blM,if_false,Bool.false_eq_true,g4]
 |raw _=>exact h.elim
 |exc _=>exact h.elim
 |scr _=>exact h.elim
 |dct _ _=>exact h.elim
 |dci _ _=>exact h.elim
theorem fS {d:D}(h:Plain d):a8 [d]=M.ret (.bl (g4 d)):=bH (aS (ni h rfl))
def cY (x:Str):Bool:=x.cps.toList.all fun c=>inL ⟨#[c]⟩
def eS:D→Bool
 | .str x=>(decide (1≤x.length)&&decide (x.length≤8))&&cY x
 |_=>false
theorem kG (l:List Bool):bools (l.map D.bl)=some l:=by
 induction l with
 |nil=>rfl
 |cons b r ih=>show (bools (r.map D.bl)).map _=_;rw[ih];rfl
theorem all_map (l:List Bool):allM [.lst (l.map D.bl)]=M.ret (.bl (l.all id)):=by
 show (match bools (l.map D.bl) with | some bs=>M.ret (D.bl (bs.all id)) | none=>M.stuck)=_
 rw[kG]
theorem lH {δ:DE}{ρ:Rho}{n:Nat}(h:δ ρ=M.ret (.int (n:Int))):
 tB' (chI (fun i j=>decide (i≤j)) (fun i j=>decide (i≤j)) (dC (.int 1)) δ (dC (.int 8))) ρ=M.ret (decide (1≤n)&&decide (n≤8)):=by
 have k1:decide ((1:Int)≤(n:Int))=decide (1≤n):=by by_cases h:1≤n<;>simp[h]<;>omega
 have k2:decide ((n:Int)≤8)=decide (n≤8):=by by_cases h:n≤8<;>simp[h]<;>omega
 simp only[tB',chI,dC,h,ai,k1,k2,gI,blM]
 cases decide (1≤n)<;>rfl
theorem jP {d:D}(h:Plain d):bT [d]=M.ret (.bl (eS d)):=by
 refine bH ?_
 have hρ:([d].map (fun d=>some (Sl.fz d))++List.replicate (1 - [d].length) none)=[fz d]:=rfl
 rw[hρ]
 have hv:dV 0 [fz d]=M.ret d:=rfl
 have no:isStr d=false→jA [fz d]=M.ret (.rt (.bl false)):=fun hs=>by
  refine c4 (fL ?_ (aS rfl))
  simp only[dOr,bt,bu,dA,aC,aN,dC,hv,ai,b7 h,hs,mS,Bool.not_false,if_true]
 cases d with
 |str x=>
  have hi:bu (dA de (aC (dV 0) (aC (dC (.raw (.ty "str"))) aN))) [fz (.str x)]=M.ret true:=by
   simp only[bu,dA,aC,aN,dC,hv,ai,b7 h,isStr,mS]
  have hl:dA bp (aC (dV 0) aN) [fz (.str x)]=M.ret (.int (x.length:Int)):=rfl
  have hc:=lH hl
  by_cases hr:(decide (1≤x.length)&&decide (x.length≤8))=true
  ·rw[hr] at hc
   refine aw (fK ?_ (ρ:=[fz (.str x)]) rfl) (aS ?_)
   ·unfold dOr bt
    rw[hi,ai,ai,hc]
    rfl
   ·have hb:x.length≤8:=by simp only[Bool.and_eq_true,decide_eq_true_eq] at hr;exact hr.2
    have cm:bf 0 (fun ρ=>(dV 0) ρ>>=pS) bN (az 1 a8 (aC (dV 0) aN)) [fz (.str x)]=M.ret (.lst ((x.cps.toList.map fun c=>inL ⟨#[c]⟩).map D.bl)):=by
     refine cj (ds:=signs x) rfl ?_ ?_
     ·have:=cf (f:=cL 0 bN (az 1 a8 (aC (dV 0) aN)) [fz (.str x)]) (g:=fun d=>D.bl (g4 d)) (signs x) fun d hd=>by
       rw[fi]
       obtain⟨c,_,rfl⟩:=List.mem_map.mp hd
       show (a8 [.str ⟨#[c]⟩]>>=fun y=>M.ret (some y))=_
       rw[fS (d:= .str ⟨#[c]⟩) trivial]
       rfl
      rw[this]
      unfold signs
      rw[List.map_map,List.map_map]
      congr 1
     ·rw[List.length_map,List.length_map,Array.length_toList,cJ]
      exact Nat.le_trans hb (by decide)
    rw[gN (cw cm rfl),all_map]
    show M.ret (D.bl ((x.cps.toList.map fun c=>inL ⟨#[c]⟩).all id))=M.ret (D.bl ((decide (1≤x.length)&&decide (x.length≤8))&&cY x))
    rw[hr]
    unfold cY
    rw[List.all_map]
    rfl
  ·have hr:(decide (1≤x.length)&&decide (x.length≤8))=false:=by simpa using hr
   rw[hr] at hc
   have:eS (.str x)=false:=by
    show ((decide (1≤x.length)&&decide (x.length≤8))&&cY x)=false
    rw[hr];rfl
   rw[this]
   refine c4 (fL ?_ (aS rfl))
   unfold dOr bt
   rw[hi,ai,ai,hc]
   rfl
 |non=>exact no rfl
 |bl b=>exact no rfl
 |int b=>exact no rfl
 |tup b=>exact no rfl
 |lst b=>exact no rfl
 |raw _=>exact h.elim
 |exc _=>exact h.elim
 |scr _=>exact h.elim
 |dct _ _=>exact h.elim
 |dci _ _=>exact h.elim
def df:D→Nat
 | .str x=>x.length
 |_=>0
def bJ:D→Bool
 | .tup ds=>(decide (1≤ds.length)&&decide (ds.length≤8))&&(ds.all eS&&ds.all fun d=>df d==df (ds.headD .non))
 |_=>false
def Plain2:D→Prop
 | .tup ds=>∀d∈ds,Plain d
 |d=>Plain d
theorem Plain2.plain {d:D}(h:Plain2 d):Plain d:=by
 cases d<;>first | exact h | exact trivial
theorem ix0 {ds:List D}{d:D}{r:List D}(h:ds=d::r):iV (.tup ds) (.int 0)=M.ret d:=by
 subst h
 show (match L2.atI (d::r) ((0:Nat):Int) with | some d=>M.ret d | none=>M.stuck)=_
 rw[e_ (x:=d) rfl]
theorem n_ {d:D}(h:eS d=true):∃x,d= .str x:=by
 cases d<;>first | exact⟨_,rfl⟩ | cases h
theorem kO {d:D}(h:Plain d):dOr (bt (bu (dA de (aC (dV 0) (aC (dC (.raw (.ty "tuple"))) aN))))) (bt (tB' (chI (fun i j=>decide (i≤j)) (fun i j=>decide (i≤j)) (dC (.int 1)) (dA bp (aC (dV 0) aN)) (dC (.int 8))))) [fz d]=
 M.ret (match d with | .tup ds=>!(decide (1≤ds.length)&&decide (ds.length≤8)) | _=>true):=by
 have hv:dV 0 [fz d]=M.ret d:=rfl
 have no:isTup d=false→dOr (bt (bu (dA de (aC (dV 0) (aC (dC (.raw (.ty "tuple"))) aN))))) (bt (tB' (chI (fun i j=>decide (i≤j)) (fun i j=>decide (i≤j)) (dC (.int 1)) (dA bp (aC (dV 0) aN)) (dC (.int 8))))) [fz d]=M.ret true:=fun hs=>by
  simp only[dOr,bt,bu,dA,aC,aN,dC,hv,ai,j_ h,hs,mS,Bool.not_false,if_true]
 cases d with
 |tup ds=>
  have hi:bu (dA de (aC (dV 0) (aC (dC (.raw (.ty "tuple"))) aN))) [fz (.tup ds)]=M.ret true:=by
   simp only[bu,dA,aC,aN,dC,hv,ai,j_ h,isTup,mS]
  have hl:dA bp (aC (dV 0) aN) [fz (.tup ds)]=M.ret (.int (ds.length:Int)):=rfl
  unfold dOr bt
  rw[hi,ai,ai,lH hl]
  rfl
 |non=>exact no rfl
 |bl b=>exact no rfl
 |int b=>exact no rfl
 |str b=>exact no rfl
 |lst b=>exact no rfl
 |raw _=>exact h.elim
 |exc _=>exact h.elim
 |scr _=>exact h.elim
 |dct _ _=>exact h.elim
 |dci _ _=>exact h.elim
theorem all_rows {ds:List D}(h:∀d∈ds,Plain d) (hl:ds.length≤8):dA allM (aC (bf 0 (gO (dV 0)) bN (az 1 bT (aC (dV 0) aN))) aN) [fz (.tup ds)]=M.ret (.bl (ds.all eS)):=by
 have cm:bf 0 (gO (dV 0)) bN (az 1 bT (aC (dV 0) aN)) [fz (.tup ds)]=M.ret (.lst ((ds.map eS).map D.bl)):=by
  refine cj (ds:=ds) rfl ?_ (by rw[List.length_map,List.length_map,cJ];omega)
  rw[List.map_map]
  refine cf (g:=D.bl∘eS) ds fun d hd=>?_
  rw[fi]
  show (bT [d]>>=fun y=>M.ret (some y))=_
  rw[jP (h d hd)]
  rfl
 rw[gN (cw cm rfl),all_map,List.all_map]
 rfl
theorem lD {ds:List D}(hs:∀d∈ds,∃x,d= .str x) (h0:1≤ds.length) (hl:ds.length≤8):
 dA allM (aC (bf 0 (gO (dV 0)) bN (d2 gEq (dA bp (aC (dV 0) aN)) (dA bp (aC (d2 iV (dV 1) (dC (.int 0))) aN)))) aN) [fz (.tup ds)]=M.ret (.bl (ds.all fun d=>df d==df (ds.headD .non))):=by
 obtain⟨d0,r,e0⟩:∃d0 r,ds=d0::r:=by
  cases ds with
  |nil=>simp at h0
  |cons a r=>exact⟨a,r,rfl⟩
 have hh:ds.headD .non=d0:=by rw[e0];rfl
 obtain⟨x0,hx0⟩:=hs d0 (by rw[e0];exact List.mem_cons_self ..)
 have cm:bf 0 (gO (dV 0)) bN (d2 gEq (dA bp (aC (dV 0) aN)) (dA bp (aC (d2 iV (dV 1) (dC (.int 0))) aN))) [fz (.tup ds)]=M.ret (.lst ((ds.map fun d=>df d==df (ds.headD .non)).map D.bl)):=by
  refine cj (ds:=ds) rfl ?_ (by rw[List.length_map,List.length_map,cJ];omega)
  rw[List.map_map]
  refine cf (g:=D.bl∘fun d=>df d==df (ds.headD .non)) ds fun d hd=>?_
  rw[fi]
  obtain⟨x,rfl⟩:=hs d hd
  have k:((x.length:Int)==(x0.length:Int))=(x.length==x0.length):=lV _ _
  have i0:iV (.tup ds) (.int 0)=M.ret (.str x0):=by rw[ix0 e0,hx0]
  have hh':ds.headD .non= .str x0:=by rw[hh,hx0]
  simp only[d2,dA,aC,aN,dC,dV,ai,List.getElem?_cons_zero,List.getElem?_cons_succ,len_str,i0,eq_int,k,Function.comp,df,hh']
 rw[gN (cw cm rfl),all_map,List.all_map]
 rfl
theorem cz {d:D}(h:Plain2 d):aU [d]=M.ret (.bl (bJ d)):=by
 refine bH ?_
 have hρ:([d].map (fun d=>some (Sl.fz d))++List.replicate (1 - [d].length) none)=[fz d]:=rfl
 rw[hρ]
 have hf:=kO h.plain
 have no:(∀ds,d≠ .tup ds)→fN [fz d]=M.ret (.rt (.bl (bJ d))):=fun hn=>by
  cases d<;>first | exact absurd rfl (hn _) | exact c4 (fL hf (aS rfl))
 cases d with
 |tup ds=>
  have hf:_=M.ret (!(decide (1≤ds.length)&&decide (ds.length≤8))):=hf
  by_cases hr:(decide (1≤ds.length)&&decide (ds.length≤8))=true
  ·rw[hr] at hf
   have hb:=hr
   simp only[Bool.and_eq_true,decide_eq_true_eq] at hb
   have e:bJ (.tup ds)=(ds.all eS&&ds.all fun d=>df d==df (ds.headD .non)):=by
    show ((decide (1≤ds.length)&&decide (ds.length≤8))&&_)=_
    rw[hr,Bool.true_and]
   rw[e]
   have a1:=all_rows h hb.2
   refine aw (fK hf rfl) ?_
   cases hc:ds.all eS with
   |false=>
    rw[hc] at a1
    refine c4 (fL ?_ (aS rfl))
    unfold bt bu
    rw[a1]
    rfl
   |true=>
    rw[hc] at a1
    refine aw (fK ?_ rfl) (aS ?_)
    ·unfold bt bu
     rw[a1]
     rfl
    ·rw[Bool.true_and]
     exact lD (fun d hd=>n_ (List.all_eq_true.mp hc d hd)) hb.1 hb.2
  ·have hr:(decide (1≤ds.length)&&decide (ds.length≤8))=false:=by simpa using hr
   rw[hr] at hf
   have e:bJ (.tup ds)=false:=by
    show ((decide (1≤ds.length)&&decide (ds.length≤8))&&_)=_
    rw[hr];rfl
   rw[e]
   exact c4 (fL hf (aS rfl))
 |non=>exact no fun _ z=>by cases z
 |bl b=>exact no fun _ z=>by cases z
 |int b=>exact no fun _ z=>by cases z
 |str b=>exact no fun _ z=>by cases z
 |lst b=>exact no fun _ z=>by cases z
 |raw _=>exact h.elim
 |exc _=>exact h.elim
 |scr _=>exact h.elim
 |dct _ _=>exact h.elim
 |dci _ _=>exact h.elim
end K1
namespace K1
open PySem L2 L3
structure Brd (ob:List Str) (V:Nat):Prop where
 r1:1≤ob.length
 r8:ob.length≤8
 w1:1≤V
 w8:V≤8
 rows:∀r∈ob,Row V r
theorem Good.brd {bd:List Str}{W:Nat}(hg:Good bd W):Brd bd W:=⟨hg.r1,by have:=hg.r5;omega,hg.w1,by have:=hg.w5;omega,hg.rows⟩
theorem Brd.board {ob:List Str}{V:Nat}(h:Brd ob V):bJ (brd ob)=true:=by
 have hrow:∀r∈ob,eS (.str r)=true:=fun r hr=>by
  have q:=h.rows r hr
  show ((decide (1≤r.length)&&decide (r.length≤8))&&cY r)=true
  rw[q.len]
  have a:decide (1≤V)=true:=decide_eq_true h.w1
  have b:decide (V≤8)=true:=decide_eq_true h.w8
  rw[a,b]
  show cY r=true
  exact List.all_eq_true.mpr fun c hc=>q.let' c hc
 have h0:df ((ob.map D.str).headD .non)=V:=by
  have:=h.r1
  have hr:=h.rows
  cases ob with
  |nil=>simp at this
  |cons x l=>exact(hr x (List.mem_cons_self ..)).len
 show ((decide (1≤(ob.map D.str).length)&&decide ((ob.map D.str).length≤8))&&((ob.map D.str).all eS&&(ob.map D.str).all fun d=>df d==df ((ob.map D.str).headD .non)))=true
 rw[h0,List.length_map,decide_eq_true h.r1,decide_eq_true h.r8]
 have a:(ob.map D.str).all eS=true:=List.all_eq_true.mpr fun d hd=>by
  obtain⟨r,hr,rfl⟩:=List.mem_map.mp hd
  exact hrow r hr
 have b:((ob.map D.str).all fun d=>df d==V)=true:=List.all_eq_true.mpr fun d hd=>by
  obtain⟨r,hr,rfl⟩:=List.mem_map.mp hd
  show (r.length==V)=true
  rw[(h.rows r hr).len]
  simp
 rw[a,b]
 rfl
theorem kH {bd:List Str}:Plain2 (brd bd):=fun d hd=>by
 obtain⟨r,_,rfl⟩:=List.mem_map.mp hd
 trivial
theorem jF {δ:DE}{ρ:Rho}{b:Bool}(h:δ ρ=M.ret (.bl b)):bu δ ρ=M.ret b:=by
 unfold bu
 rw[h]
 rfl
theorem qt {δ:DE}{ρ:Rho}{b:Bool}(h:δ ρ=M.ret (.bl b)):tB' δ ρ=M.ret b:=by
 unfold tB'
 rw[h]
 rfl
theorem lJ {τ:DT}{ρ:Rho}{b:Bool}(h:τ ρ=M.ret b):bt τ ρ=M.ret (!b):=by
 unfold bt
 rw[h]
 rfl
theorem oV {a c:DT}{ρ:Rho}{p q:Bool}(h1:a ρ=M.ret p) (h2:c ρ=M.ret q):jE a c ρ=M.ret (p&&q):=by
 unfold jE
 rw[h1,ai]
 cases p
 ·rfl
 ·exact h2
theorem mW {a c:DE}{ρ:Rho}{p q:Bool}(h1:a ρ=M.ret (.bl p)) (h2:c ρ=M.ret (.bl q)):b5 a c ρ=M.ret (.bl (p&&q)):=by
 unfold b5
 rw[h1,ai]
 cases p
 ·rfl
 ·exact h2
theorem p5 {c:DT}{a b:DE}{ρ:Rho}{p:Bool}(h:c ρ=M.ret p):dIf c a b ρ=if p then a ρ else b ρ:=by
 unfold dIf
 rw[h]
 rfl
theorem Brd.nb {ob:List Str}{V:Nat}(h:Brd ob V):bO [brd ob]=M.ret .non:=by
 refine oa (ρ:=[fz (brd ob)]) (fK (lJ (jF (b:=true) ?_)) rfl)
 refine(aH (ds:=[brd ob]) rfl rfl).trans ?_
 rw[cz kH,h.board]
abbrev Cell:=Nat×Nat
def cD (c:Cell):D:= .tup [.int (c.1:Int), .int (c.2:Int)]
def On (R W:Nat) (c:Cell):Prop:=c.1<R∧c.2<W
instance {R W:Nat}{c:Cell}:Decidable (On R W c):=by unfold On;infer_instance
def ch (x:Str) (j:Nat):Nat:=x.cps.toList.getD j 0
def at2 (bd:List Str) (i j:Nat):Nat:=ch (bd.getD i ⟨#[]⟩) j
abbrev lt (bd:List Str) (c:Cell):Nat:=at2 bd c.1 c.2
def dif (a b:Nat):Nat:=max a b - min a b
def nxt (w:Nat) (a b:Cell):Bool:=if w=4 then decide (dif a.1 b.1+dif a.2 b.2=1) else decide (max (dif a.1 b.1) (dif a.2 b.2)=1)
end K1
namespace K1
open PySem L2 L3
theorem kP {put:D→Rho→Option Rho}{body:DS}{d:D}{ds:List D}{ρ ρ1 ρ2:Rho}(h1:put d ρ=some ρ1) (h2:body ρ1=M.ret (.nx ρ2)):forL put body (d::ds) ρ=forL put body ds ρ2:=by
 show (match put d ρ with | none=>M.stuck | some ρ1=>body ρ1>>=fun o=>match o with | .nx ρ2=>forL put body ds ρ2 | .rt v=>M.ret (.rt v))=_
 rw[h1]
 show (body ρ1>>=fun o=>match o with | .nx ρ2=>forL put body ds ρ2 | .rt v=>M.ret (.rt v))=_
 rw[h2]
 rfl
section
variable {α σ : Type} {put : D → Rho → Option Rho} {body : DS}
theorem gr (enc:α→D) (ρ:Rho):∀(xs:List α),(∀x∈xs,∃ρ1,put (enc x) ρ=some ρ1∧body ρ1=M.ret (.nx ρ))→forL put body (xs.map enc) ρ=M.ret (.nx ρ)
 |[],_=>rfl
 |x::xs,st=>by
  obtain⟨ρ1,e1,e2⟩:=st x (List.mem_cons_self ..)
  exact(kP e1 e2).trans (gr enc ρ xs fun y hy=>st y (List.mem_cons_of_mem _ hy))
end
theorem qr {put:D→Rho→Option Rho}{δi:DA}{b:DS}{ρ:Rho}{ds:List D}{m:M Out}(h:δi ρ=M.ret ds) (h2:forL put b ds ρ=m):jm put δi b ρ=m:=by
 unfold jm
 rw[h]
 exact h2
theorem nq {τ:DS}{ρ:Rho}{o:Out}(h:τ ρ=M.ret o):(fun ρ=>noex (τ ρ)) ρ=M.ret o:=by
 show noex (τ ρ)=_
 rw[h]
 rfl
def p_ (R W w:Nat) (c:Cell):List Cell:=
 (List.range' (c.1 - 1) (min (c.1+2) R - (c.1 - 1))).flatMap fun r=>((List.range' (c.2 - 1) (min (c.2+2) W - (c.2 - 1))).map fun k=>(r,k)).filter (nxt w c)
abbrev nc (b c w:D) (acc:List D) (x4 x5:Option Sl):Rho:=[fz b,fz c,fz w,some (.ow (.lst acc)),x4,x5]
def ke (bd:List Str) (W w:Nat) (c:Cell):List Cell:=(p_ bd.length W w c).filter fun x=>decide (lt bd x=lt bd c)
end K1
namespace K1
section
variable {α : Type} [DecidableEq α]
structure Bk (α:Type) where
 ks:List α
 ps:List (Option α)
 fu:List α
variable (nb : α → List α)
def Rb (a:α):Nat→α→Prop
 |0,x=>x=a
 |k+1,x=>Rb a k x∨∃y,Rb a k y∧x∈nb y
variable {nb} {a : α}
structure Grown (P:α→α→Prop) (s t:Bk α):Prop where
 ex:∃fs:List (α×α),t.ks=s.ks++fs.map (·.1)∧t.ps=s.ps++fs.map (fun p=>some p.2)∧t.fu=s.fu++fs.map (·.1)∧(∀p∈fs,P p.2 p.1)
 nd:s.ks.Nodup→t.ks.Nodup
theorem Grown.trans {P:α→α→Prop}{s t u:Bk α}(h1:Grown P s t) (h2:Grown P t u):Grown P s u:=by
 obtain⟨fs,a1,a2,a3,a4⟩:=h1.ex
 obtain⟨gs,b1,b2,b3,b4⟩:=h2.ex
 refine⟨⟨fs++gs,by rw[b1,a1];simp,by rw[b2,a2];simp,by rw[b3,a3];simp,fun p hp=>?_⟩,fun h=>h2.nd (h1.nd h)⟩
 rcases List.mem_append.mp hp with h | h
 ·exact a4 p h
 ·exact b4 p h
structure Rng (nb:α→List α) (a:α) (k:Nat) (ks:List α) (ps:List (Option α)) (ring:List α):Prop where
 len:ks.length=ps.length
 nd:ks.Nodup
 mem:∀x,x∈ks↔Rb nb a k x
 rg:∀x,x∈ring↔Rb nb a k x∧∀j,Rb nb a j x→k≤j
 par:∀x p,(x,some p)∈ks.zip ps→x∈nb p∧p∈ks∧∀j,Rb nb a j x→∃i,j=i+1∧Rb nb a i p
 non:∀x,(x,none)∈ks.zip ps→x=a
 sz:k≤ks.length∧(ring≠[]→k+1≤ks.length)
end
end K1
namespace K1
open PySem L2 L3
def keyOf (c:Cell):List Key:=[.inl (c.1:Int), .inl (c.2:Int)]
def qJ:Option Cell→D
 |none=> .non
 |some c=>cD c
abbrev p4 (ks:List Cell) (ps:List (Option Cell)):C:= .dct (ks.map keyOf) (ps.map qJ)
abbrev sb (b s w:D) (ks:List Cell) (ps:List (Option Cell)) (x4 x5 x6 x7:Option Sl):Rho:=[fz b,fz s,fz w,some (.ow (p4 ks ps)),x4,x5,x6,x7]
structure Bok (R W:Nat) (s:Bk Cell):Prop where
 len:s.ks.length=s.ps.length
 nd:s.ks.Nodup
 on:∀x∈s.ks,On R W x
 fu:s.fu.length≤s.ks.length
end K1
namespace K1
open PySem L2 L3
def eg {α:Type} [DecidableEq α] (n:Nat) (enc:α→D):Prop:=∀k x y,eqF (n+k) (enc x) (enc y)=some (decide (x=y))
theorem m6 (n:Nat) (i j:Str):eqF n (.str i) (.str j)=some (i==j):=by cases n<;>rfl
theorem gR {α:Type} [DecidableEq α] {enc:α→D}{f:D→D→Option Bool}(h:∀x y,f (enc x) (enc y)=some (decide (x=y))):∀(xs ys:List α),eqL f (xs.map enc) (ys.map enc)=some (decide (xs=ys))
 |[],[]=>rfl
 |[],_::_=>by simp[eqL]
 |_::_,[]=>by simp[eqL]
 |x::xs,y::ys=>by
  rw[List.map_cons,List.map_cons]
  show (match f (enc x) (enc y),eqL f (xs.map enc) (ys.map enc) with | some b,some r=>some (b&&r) | _,_=>none)=_
  rw[h,gR h xs ys]
  show some (decide (x=y)&&decide (xs=ys))=_
  congr 1
  by_cases h1:x=y<;>by_cases h2:xs=ys<;>simp[h1,h2]
theorem qA {α:Type} [DecidableEq α] {enc:α→D}{n:Nat}(h:eg n enc):eg (n+1) (fun l:List α=> .lst (l.map enc)):=fun k x y=>by
 rw[show n+1+k=(n+k)+1 by omega]
 exact gR (h k) x y
theorem mY {α:Type} [DecidableEq α] {enc:α→D}{n:Nat}(h:eg n enc):eg (n+1) (fun l:List α=> .tup (l.map enc)):=fun k x y=>by
 rw[show n+1+k=(n+k)+1 by omega]
 exact gR (h k) x y
theorem j8:eg 0 D.str:=fun k x y=>by
 rw[m6]
 congr 1
theorem gQ:eg 1 brd:=mY j8
theorem jJ {α:Type} [DecidableEq α] {enc:α→D}{n:Nat}(h:eg n enc) (hn:n≤6) (x y:α):gEq (enc x) (enc y)=M.ret (.bl (decide (x=y))):=by
 have:=h (6 - n) x y
 rw[show n+(6 - n)=6 by omega] at this
 unfold gEq
 rw[this]
theorem oW {α:Type} [DecidableEq α] {enc:α→D}{n:Nat}(h:eg n enc) (hn:n≤6) (x y:α):gNe (enc x) (enc y)=M.ret (.bl (!decide (x=y))):=by
 have:=h (6 - n) x y
 rw[show n+(6 - n)=6 by omega] at this
 unfold gNe
 rw[this]
def clt (a b:Cell):Bool:=if a.1=b.1 then decide (a.2<b.2) else decide (a.1<b.1)
def p0 (l:List Cell):Prop:=l.Pairwise fun a b=>clt a b=true
def Cn (bd:List Str) (W w:Nat) (a b:Cell):Prop:=∃j,Rb (ke bd W w) a j b
theorem fI {bd:List Str}{W w:Nat}{a b c:Cell}{i:Nat}(h:Rb (ke bd W w) a i b):∀{j:Nat},Rb (ke bd W w) b j c→Rb (ke bd W w) a (i+j) c
 |0,q=>by rw[show c=b from q];exact h
 |j+1, .inl q=> .inl (fI h q)
 |j+1, .inr ⟨y,q,hy⟩=> .inr ⟨y,fI h q,hy⟩
section
variable {bd : List Str} {W w : Nat} {a b c : Cell}
theorem Cn.trans (h:Cn bd W w a b) (h2:Cn bd W w b c):Cn bd W w a c:=let ⟨i,q⟩:=h;let ⟨j,r⟩:=h2;⟨i+j,fI q r⟩
end
structure IsPatch (bd:List Str) (W w:Nat) (a:Cell) (P:List Cell):Prop where
 rise:p0 P
 mem:∀x,x∈P↔Cn bd W w a x
end K1
namespace K1
open PySem L2 L3 HT
def spL (c:Nat):List Nat→List (List Nat)
 |[]=>[[]]
 |a::r=>if a=c then []::spL c r else match spL c r with
  |h::t=>(a::h)::t
  |[]=>[[a]]
theorem mL (c:Nat):∀l,spL c l≠[]
 |[],h=>by cases h
 |a::r,h=>by
  unfold spL at h
  split at h
  ·cases h
  ·split at h<;>cases h
theorem d_ {c a:Nat}{r h:List Nat}{t:List (List Nat)}(ha:¬a=c) (e:spL c r=h::t):spL c (a::r)=(a::h)::t:=by
 show (if a=c then _ else match spL c r with | h::t=>(a::h)::t | []=>[[a]])=_
 rw[if_neg ha,e]
theorem e8 {c:Nat}{r:List Nat}:spL c (c::r)=[]::spL c r:=if_pos rfl
theorem il {c:Nat}:∀{p:List Nat}(r:List Nat),c∉p→spL c (p++c::r)=p::spL c r
 |[],r,_=>e8
 |a::p,r,h=>d_ (fun e=>h (by simp[e])) (il (p:=p) r (fun q=>h (List.mem_cons_of_mem _ q)))
theorem kD {c:Nat}:∀{p:List Nat},c∉p→spL c p=[p]
 |[],_=>rfl
 |a::p,h=>d_ (fun e=>h (by simp[e])) (kD (p:=p) (fun q=>h (List.mem_cons_of_mem _ q)))
def iX (c:Nat):List (List Nat)→List Nat
 |[]=>[]
 |[p]=>p
 |p::q::r=>p++c::iX c (q::r)
theorem jt {c:Nat}:∀(ps:List (List Nat)),ps≠[]→(∀p∈ps,c∉p)→spL c (iX c ps)=ps
 |[],h,_=>absurd rfl h
 |[p],_,h=>kD (h p (List.mem_cons_self ..))
 |p::q::r,_,h=>by
  rw[iX,il _ (h p (List.mem_cons_self ..)),jt (q::r) (fun z=>by cases z) fun x hx=>h x (List.mem_cons_of_mem _ hx)]
theorem eZ {c:Nat}:∀u:List Nat,spL c (u++[c])=spL c u++[[]]
 |[]=>by simp[spL]
 |a::u=>by
  by_cases ha:a=c
  ·subst ha
   rw[List.cons_append,e8,e8,eZ u]
   rfl
  ·cases e:spL c u with
   |nil=>exact absurd e (mL c u)
   |cons h t=>
    have ih:=eZ (c:=c) u
    rw[e] at ih
    rw[List.cons_append,d_ ha ih,d_ ha e]
    rfl
theorem ju {c a:Nat}(ha:¬a=c):∀u:List Nat,∃ps l,spL c (u++[a])=ps++[l++[a]]
 |[]=>⟨[],[],by simp[spL,ha]⟩
 |b::u=>by
  obtain⟨ps,l,e⟩:=ju ha u
  by_cases hb:b=c
  ·subst hb
   exact⟨[]::ps,l,by rw[List.cons_append,e8,e];rfl⟩
  ·cases ps with
   |nil=>exact⟨[],b::l,by rw[List.cons_append,d_ hb e];rfl⟩
   |cons h t=>exact⟨(b::h)::t,l,by rw[List.cons_append,d_ hb e];rfl⟩
def ofL (l:List Nat):Str:=⟨l.toArray⟩
theorem bX (x:Str):ofL x.cps.toList=x:=dO (by simp[ofL])
theorem bG (l:List Nat):(ofL l).cps.toList=l:=by simp[ofL]
theorem dr (l:List Nat):(ofL l).length=l.length:=by simp[ofL,Str.length]
theorem cx (x y:Str):(x++y).cps.toList=x.cps.toList++y.cps.toList:=by
 show (x.cps++y.cps).toList=_
 simp
theorem nr {a b:List Nat}(h:ofL a=ofL b):a=b:=by
 rw[←bG a,h,bG]
theorem ek (c:Nat):∀ps:List Str,(Str.join ⟨#[c]⟩ ps).cps.toList=iX c (ps.map (·.cps.toList))
 |[]=>rfl
 |[p]=>rfl
 |p::q::r=>by
  show (p++(⟨#[c]⟩:Str)++Str.join _ (q::r)).cps.toList=_
  rw[cx,cx,ek c (q::r)]
  simp[iX]
theorem lu (x:Str) (c:Nat):(Txt.split x ⟨#[c]⟩).map (·.cps.toList)=spL c x.cps.toList:=by
 have h:=(ek c _).symm.trans (congrArg (fun s:Str=>s.cps.toList) (StrLaws.join_split x ⟨#[c]⟩))
 rw[←h,jt]
 ·intro z
  have:=PyProof.Rows.split_pos x ⟨#[c]⟩
  rw[List.map_eq_nil_iff] at z
  rw[z] at this
  simp at this
 ·intro p hp
  obtain⟨s,hs,rfl⟩:=List.mem_map.mp hp
  exact StrLaws.split_free x c s hs
theorem fM (l:List Nat) (c:Nat):Txt.split (ofL l) ⟨#[c]⟩=(spL c l).map ofL:=by
 rw[←bG l,←lu,List.map_map,bG]
 conv=>lhs;rw[←List.map_id (Txt.split (ofL l) ⟨#[c]⟩)]
 exact List.map_congr_left fun x _=>(bX x).symm
theorem oD:("\n":Str)=⟨#[10]⟩:=rfl
abbrev pD (l:List Nat):List D:=(spL 10 l).map fun p=>D.str (ofL p)
theorem di {l:List Nat}(h:l.length+2≤4096):splitM (.str (ofL l)) [.str "\n"]=M.ret (.lst (pD l)):=by
 show (if ("\n":Str).length≠0∧(ofL l).length+2≤lim then M.ret (D.lst ((Txt.split (ofL l) "\n").map D.str)) else M.stuck)=_
 rw[if_pos ⟨by decide,by rw[dr];exact h⟩,oD,fM,List.map_map]
 rfl
theorem mZ:iN (ofL []) "\n"=false:=by decide+kernel
theorem iO (u:List Nat) (a:Nat):iN (ofL (u++[a])) "\n"=decide (a=10):=by
 have h1:(ofL (u++[a])).length=u.length+1:=by rw[dr];simp
 unfold iN Builtin.Str.subAt
 rw[h1,oD]
 have e:((ofL (u++[a])).cps.extract (u.length+1 - (⟨#[10]⟩:Str).length) (u.length+1 - (⟨#[10]⟩:Str).length+(⟨#[10]⟩:Str).length))= #[a]:=by
  show ((u++[a]).toArray.extract (u.length+1 - 1) (u.length+1 - 1+1))= #[a]
  simp
 rw[e]
 have:decide (0+(⟨#[10]⟩:Str).length≤u.length+1)=true:=decide_eq_true (by show 0+1≤_;omega)
 rw[this,Bool.true_and]
 by_cases h:a=10
 ·subst h;rfl
 ·rw[decide_eq_false h]
  simp
  exact h
theorem jX (u:List Nat) (a:Nat):Txt.slice (ofL (u++[a])) none (some (-1))=ofL u:=by
 have h1:(ofL (u++[a])).length=u.length+1:=by rw[dr];simp
 have:=PyProof.Rows.slice_closes_to_neg (x:=ofL (u++[a])) (j:= -1) (k:=(u.length:Int)) (by decide) (by rw[h1];omega) (by rw[h1];omega)
 have:=eq_of_beq this
 rw[this,bG]
 refine dO ?_
 simp[ofL]
theorem lI (ds:List D) (d:D):cutD (ds++[d]) none (some (-1))=ds:=by
 unfold cutD
 have e:sIx (ds++[d]).length (ds++[d]).length (some (-1))=ds.length:=by
  show (if (-1:Int)<0 then((-1:Int)+((ds++[d]).length:Int)).toNat else min (-1:Int).toNat (ds++[d]).length)=_
  rw[if_pos (by decide),List.length_append]
  simp
  omega
 rw[e,sIx_none]
 simp
theorem nh (ds:List D) (d:D):jM (.lst (ds++[d])) (.int (-1))=M.ret d:=by
 show (match L2.atI (ds++[d]) (-1) with | some d=>M.ret d | none=>M.stuck)=_
 have e:L2.atI (ds++[d]) (-1)=some d:=by
  unfold L2.atI ixN
  rw[if_neg (by decide),if_pos (by simp;omega)]
  show (ds++[d])[((-1:Int)+((ds++[d]).length:Int)).toNat]? =_
  have:((-1:Int)+((ds++[d]).length:Int)).toNat=ds.length:=by simp;omega
  rw[this]
  simp
 rw[e]
theorem eU (x y:Str):gEq (.str x) (.str y)=M.ret (.bl (decide (x=y))):=jJ j8 (by decide) x y
theorem er (l:List Nat):l=[]∨∃u a,l=u++[a]:=by
 rcases List.eq_nil_or_concat l with h | ⟨u,a,h⟩
 ·exact .inl h
 ·exact .inr ⟨u,a,by rw[h,List.concat_eq_append]⟩
theorem fv (l:List (List Nat)):Plain2 (.tup (l.map fun p=>D.str (ofL p))):=fun d hd=>by
 obtain⟨p,_,rfl⟩:=List.mem_map.mp hd
 trivial
end K1
namespace K1
open PySem L2 L3 HT
theorem kC {a b:DS}{ρ:Rho}{n:Nat}(h:a ρ=M.raise n):aL a b ρ=M.raise n:=by
 unfold aL
 rw[h]
 rfl
def dj (l:List Nat):D:=if l.getLast? =some 10∧bJ (.tup (pD l.dropLast))=true then .tup (pD l.dropLast) else .non
theorem gP (u:List Nat):dj (u++[10])=if bJ (.tup (pD u))=true then .tup (pD u) else .non:=by
 unfold dj
 rw[List.getLast?_append,List.dropLast_append_of_ne_nil (by simp)]
 simp
theorem j6 (u:List Nat) {a:Nat}(ha:¬a=10):dj (u++[a])= .non:=by
 unfold dj
 rw[if_neg]
 rintro⟨h,_⟩
 rw[List.getLast?_append] at h
 simp at h
 exact ha h
theorem jI {l:List Nat}{ds:List D}{d:D}{b:Bool}(h:l.length+2≤4096) (e:pD l=ds++[d]) (he:gEq d (.str "")=M.ret (.bl b)) (hp:Plain2 (.tup ds)):
 a5 [.str (ofL l)]=M.ret (if b&&bJ (.tup ds) then .tup ds else .non):=by
 refine bH ?_
 refine aw (ρ':=[fz (.str (ofL l)),fz (.lst (ds++[d])),none]) ((aG (d:= .lst (ds++[d])) ?_).trans rfl) ?_
 ·show (if isS (.str (ofL l)) then(M.ret [D.str "\n"]>>=fun ds=>splitM (.str (ofL l)) ds) else M.stuck)=_
  rw[←e]
  exact(if_pos rfl).trans (di h)
 refine aw (ρ':=[fz (.str (ofL l)),fz (.lst (ds++[d])),fz (.tup ds)]) ((aG (d:= .tup ds) ?_).trans rfl) ?_
 ·show (slM (.lst (ds++[d])) none (some (-1))>>=fun x=>M.ret [x])>>=eC=_
  show (M.ret (D.lst (cutD (ds++[d]) none (some (-1))))>>=fun x=>M.ret [x])>>=eC=_
  rw[lI]
  rfl
 refine aS ?_
 refine(p5 (p:=b&&bJ (.tup ds)) (oV ?_ ?_)).trans ?_
 ·refine qt ((bK (x:=d) (y:= .str "") ((bK (x:= .lst (ds++[d])) (y:= .int (-1)) rfl rfl).trans (nh ds d)) rfl).trans he)
 ·exact jF ((aH (ds:=[.tup ds]) rfl rfl).trans (cz hp))
 ·cases b&&bJ (.tup ds)<;>rfl
theorem j7 (l:List Nat) (h:l.length+2≤4096):a5 [.str (ofL l)]=M.ret (dj l):=by
 rcases er l with rfl | ⟨u,a,rfl⟩
 ·rw[jI (ds:=[]) (d:= .str (ofL [])) (b:=true) h rfl ((eU _ _).trans rfl) (fun d hd=>by cases hd)]
  rfl
 ·by_cases ha:a=10
  ·subst ha
   have e:pD (u++[10])=pD u++[.str (ofL [])]:=by
    show (spL 10 (u++[10])).map _=_
    rw[eZ,List.map_append]
    rfl
   rw[jI (b:=true) h e ((eU (ofL []) "").trans rfl) (fv _),gP,Bool.true_and]
  ·obtain⟨ps,q,e⟩:=ju (c:=10) ha u
   have e:pD (u++[a])=(ps.map fun p=>D.str (ofL p))++[.str (ofL (q++[a]))]:=by
    show (spL 10 (u++[a])).map _=_
    rw[e,List.map_append]
    rfl
   rw[jI (b:=false) h e ((eU _ _).trans ?_) (fv _),j6 u ha]
   ·rfl
   ·rw[decide_eq_false]
    intro z
    have:=congrArg Str.length z
    rw[dr] at this
    simp at this
    have z0:(Str.ofString "").length=0:=by decide
    omega
theorem kB {δs:DA}{ρ:Rho}{ds:List D}(h:δs ρ=M.ret ds) (hl:ds.length≤4096):sRz 7 δs ρ=M.raise 7:=by
 show (δs ρ>>=fun ds=>if ds.length≤lim then M.raise 7 else M.stuck)=_
 rw[h]
 exact if_pos hl
theorem mC (l:List Nat) (h:l.length+2≤4096):aE [.str (ofL l)]=M.raise 7∧dj l= .non∨aE [.str (ofL l)]=M.ret (dj l):=by
 have t1:∀ρ:Rho,ρ=[fz (.str (ofL l)),none]→dOr (bt (bu (dA de (aC (dV 0) (aC (dC (.raw (.ty "str"))) aN))))) (bt (bu (dM isS cV (dV 0) (aC (dC (.str "\n")) aN)))) ρ=M.ret (!iN (ofL l) "\n"):=fun ρ e=>by
  subst e
  rfl
 have no:iN (ofL l) "\n"=false→aE [.str (ofL l)]=M.raise 7:=fun q=>by
  refine kz (kC (fL ((t1 _ rfl).trans (by rw[q];rfl)) (kB rfl (by show 1≤_;decide))))
 rcases er l with rfl | ⟨u,a,rfl⟩
 ·exact .inl ⟨no mZ,rfl⟩
 ·by_cases ha:a=10
  ·subst ha
   have hl:u.length+2≤4096:=by rw[List.length_append] at h;simp at h;omega
   have pre:∀{o:M Out},(aL (sIf (bt (bu (az 1 aU (aC (dV 1) aN)))) (sRz 7 (aC (dC (.str "the text of a board is asked for")) aN)) dN) (bq (dV 1))) [fz (.str (ofL (u++[10]))),fz (.tup (pD u))]=o→dZ [fz (.str (ofL (u++[10]))),none]=o:=fun ho=>by
    refine aw (fK ((t1 _ rfl).trans (by rw[iO];rfl)) rfl) ?_
    refine aw ((aG (d:= .tup (pD u)) ?_).trans rfl) ho
    show ((slM (.str (ofL (u++[10]))) none (some (-1))>>=fun d=>if isS d then(M.ret [D.str "\n"]>>=fun ds=>splitM d ds) else M.stuck)>>=fun x=>M.ret [x])>>=eC=_
    show (((if isS (.str (Txt.slice (ofL (u++[10])) none (some (-1)))) then(M.ret [D.str "\n"]>>=fun ds=>splitM (.str (Txt.slice (ofL (u++[10])) none (some (-1)))) ds) else M.stuck)>>=fun x=>M.ret [x])>>=eC)=_
    rw[jX,if_pos (show isS (.str (ofL u))=true from rfl),ai,di hl]
    rfl
   have tb:∀b,bJ (.tup (pD u))=b→bt (bu (az 1 aU (aC (dV 1) aN))) [fz (.str (ofL (u++[10]))),fz (.tup (pD u))]=M.ret (!b):=fun b e=>by
    refine lJ (jF ((aH (ds:=[.tup (pD u)]) rfl rfl).trans ?_))
    rw[cz (fv _),e]
   rw[gP]
   cases e:bJ (.tup (pD u)) with
   |true=>
    refine .inr (bH (pre ?_))
    exact aw (fK (tb _ e) rfl) (aS rfl)
   |false=>
    refine .inl ⟨kz (pre (kC (fL (tb _ e) (kB rfl (by show 1≤_;decide))))),rfl⟩
  ·refine .inl ⟨no ?_,j6 u ha⟩
   rw[iO,decide_eq_false ha]
theorem mR (l:List Nat) (h:l.length+2≤4096):aW [.str (ofL l)]=M.ret (dj l):=by
 refine bH (c4 ?_)
 have e0:bq (az 1 aE (aC (dV 0) aN)) [fz (.str (ofL l)),none,none]=(aE [.str (ofL l)]>>=fun d=>M.ret (.rt d)):=by
  show (az 1 aE (aC (dV 0) aN) [fz (.str (ofL l)),none,none]>>=fun d=>M.ret (Out.rt d))=_
  rw[aH (m:=1) (g:=aE) (δs:=aC (dV 0) aN) (ρ:=[fz (.str (ofL l)),none,none]) (ds:=[.str (ofL l)]) rfl rfl]
 show mK _ _ [fz (.str (ofL l)),none,none]=_
 unfold mK
 rw[e0]
 rcases mC l h with⟨e,e2⟩ | e
 ·rw[e,e2]
  rfl
 ·rw[e]
  rfl
def TX (n:Nat) (δ:DE) (ρ:Rho):Prop:=∃x:Str,δ ρ=M.ret (.str x)∧x.length≤n
def LX (n k:Nat) (δ:DE) (ρ:Rho):Prop:=∃xs:List Str,δ ρ=M.ret (.lst (xs.map D.str))∧(∀x∈xs,x.length≤n)∧xs.length≤k
def AX (n k:Nat) (δ:DA) (ρ:Rho):Prop:=∃xs:List Str,δ ρ=M.ret (xs.map D.str)∧(∀x∈xs,x.length≤n)∧xs.length≤k
section
variable {ρ : Rho} {a b δ : DE} {n m k j : Nat}
theorem TX.mono (h:TX n δ ρ) (hm:n≤m):TX m δ ρ:=by
 obtain⟨x,e,l⟩:=h
 exact⟨x,e,Nat.le_trans l hm⟩
theorem TX.sl {lo hi:DO}{l h:Option Int}(t:TX n a ρ) (e1:lo ρ=M.ret l) (e2:hi ρ=M.ret h):TX n (dSl a lo hi) ρ:=by
 obtain⟨x,e,le⟩:=t
 refine⟨Txt.slice x l h,?_,Nat.le_trans (Txt.slice_le x l h) le⟩
 unfold dSl
 rw[e,ai,e1,ai,e2]
 rfl
theorem TX.add (h1:TX n a ρ) (h2:TX m b ρ) (h:n+m≤4096):TX (n+m) (d2 bx a b) ρ:=by
 obtain⟨x,e1,l1⟩:=h1
 obtain⟨y,e2,l2⟩:=h2
 refine⟨x++y,(bK e1 e2).trans (if_pos (by rw[cJ];omega)),by rw[aO];omega⟩
theorem TX.rep (h1:TX n a ρ) (hk:k≤64) (h:n*k≤4096):TX (n*k) (d2 fj a (dC (.int (k:Int)))) ρ:=by
 obtain⟨x,e1,l1⟩:=h1
 have:x.length*k≤n*k:=Nat.mul_le_mul_right _ l1
 refine⟨fW x k,(bK e1 (y:= .int (k:Int)) rfl).trans ((if_pos ⟨⟨by omega,by omega⟩,?_⟩).trans rfl),by rw[fJ];exact this⟩
 rw[cJ]
 show x.length*k≤4096
 omega
theorem AX.nil:AX n 0 aN ρ:=⟨[],rfl,(fun x h=>by cases h),Nat.le_refl _⟩
theorem AX.cons {δs:DA}(h1:TX n a ρ) (h2:AX n k δs ρ):AX n (k+1) (aC a δs) ρ:=by
 obtain⟨x,e,l⟩:=h1
 obtain⟨xs,e2,l2,l3⟩:=h2
 refine⟨x::xs,cw e e2,fun y hy=>?_,by simpa using l3⟩
 rcases List.mem_cons.mp hy with rfl | hy
 ·exact l
 ·exact l2 y hy
theorem kM (xs:List Str) (lo hi:Option Int):∃ys:List Str,cutD (xs.map D.str) lo hi=ys.map D.str∧(∀y∈ys,y∈xs)∧ys.length≤xs.length:=by
 unfold cutD
 refine⟨(xs.drop (sIx (xs.map D.str).length 0 lo)).take (sIx (xs.map D.str).length (xs.map D.str).length hi - sIx (xs.map D.str).length 0 lo),?_,fun y hy=>?_,?_⟩
 ·rw[←List.map_drop,←List.map_take]
 ·exact List.mem_of_mem_drop (List.mem_of_mem_take hy)
 ·rw[List.length_take,List.length_drop]
  omega
theorem LX.sl {lo hi:DO}{l h:Option Int}(t:LX n k a ρ) (e1:lo ρ=M.ret l) (e2:hi ρ=M.ret h):LX n k (dSl a lo hi) ρ:=by
 obtain⟨xs,e,l1,l2⟩:=t
 obtain⟨ys,c1,c2,c3⟩:=kM xs l h
 refine⟨ys,?_,fun y hy=>l1 y (c2 y hy),by omega⟩
 unfold dSl
 rw[e,ai,e1,ai,e2,ai]
 show M.ret (D.lst (cutD (xs.map D.str) l h))=_
 rw[c1]
theorem LX.cat (h1:LX n k a ρ) (h2:LX n j b ρ) (h:k+j≤4096):LX n (k+j) (d2 cN a b) ρ:=by
 obtain⟨xs,e1,l1,k1⟩:=h1
 obtain⟨ys,e2,l2,k2⟩:=h2
 refine⟨xs++ys,(bK e1 e2).trans ((if_pos (by rw[cJ,List.length_map,List.length_map];omega)).trans (by rw[List.map_append])),fun y hy=>?_,by rw[List.length_append];omega⟩
 rcases List.mem_append.mp hy with hy | hy
 ·exact l1 y hy
 ·exact l2 y hy
theorem LX.rev (h1:LX n k a ρ):LX n k (iL a (d1 g6 (dC (.int 1)))) ρ:=by
 obtain⟨xs,e1,l1,k1⟩:=h1
 refine⟨xs.reverse,?_,fun y hy=>l1 y (List.mem_reverse.mp hy),by rw[List.length_reverse];exact k1⟩
 unfold iL
 rw[e1,ai]
 show M.ret (D.lst (xs.map D.str).reverse)=_
 rw[List.map_reverse]
theorem ee:∀xs:List Str,dQ (xs.map D.str)=some xs
 |[]=>rfl
 |x::r=>by
  show (dQ (r.map D.str)).map _=_
  rw[ee r]
  rfl
theorem jY:∀(xs:List Str),(∀x∈xs,x.length≤n)→(xs.map (·.length)).sum≤xs.length*n
 |[],_=>Nat.zero_le _
 |x::r,h=>by
  have ih:=jY r fun y hy=>h y (List.mem_cons_of_mem _ hy)
  have hx:=h x (List.mem_cons_self ..)
  rw[List.map_cons,List.sum_cons,List.length_cons,Nat.add_mul]
  omega
theorem LX.join (h1:LX n k a ρ) (h:k*n+k≤4096):TX (k*n+k) (dM isS bW (dC (.str "\n")) (aC a aN)) ρ:=by
 obtain⟨xs,e1,l1,k1⟩:=h1
 have hs:=jY xs l1
 have h2:xs.length*n≤k*n:=Nat.mul_le_mul_right _ k1
 have h3:(xs.map (·.length)).sum+xs.length*("\n":Str).length≤k*n+k:=by
  have:("\n":Str).length=1:=rfl
  rw[this]
  omega
 refine⟨Txt.join "\n" xs,?_,Nat.le_trans (iY _ xs) h3⟩
 show (if isS (.str "\n") then((aC a aN) ρ>>=fun ds=>bW (.str "\n") ds) else M.stuck)=_
 rw[if_pos (show isS (.str "\n")=true from rfl),cw e1 (xs:=[]) rfl,ai]
 show (match dQ (xs.map D.str) with | some (xs:List Str)=>if (xs.map fun x:Str=>x.length).sum+xs.length*("\n":Str).length≤lim then M.ret (D.str (Txt.join "\n" xs)) else M.stuck | none=>M.stuck)=_
 rw[ee]
 exact if_pos (Nat.le_trans h3 (by rw[cJ];exact h))
end
def aV (bd:List Str):List Nat:=(bd.map fun r=>r.cps.toList++[10]).flatten
theorem eh:∀xs:List Str,(br xs).cps.toList=(xs.map (·.cps.toList)).flatten
 |[]=>rfl
 |x::r=>by
  show (x++br r).cps.toList=_
  rw[cx,eh r]
  rfl
theorem pP {W:Nat}{r:Str}(h:Row W r):10∉r.cps.toList:=fun q=>by
 have:=h.let' 10 q
 exact absurd this (by decide+kernel)
theorem du {W:Nat}:∀bd:List Str,(∀r∈bd,Row W r)→spL 10 (aV bd)=bd.map (·.cps.toList)++[[]]
 |[],_=>rfl
 |r::bd,h=>by
  show spL 10 ((r.cps.toList++[10])++aV bd)=_
  rw[List.append_assoc]
  show spL 10 (r.cps.toList++10::aV bd)=_
  rw[il _ (pP (h r (List.mem_cons_self ..))),du bd fun x hx=>h x (List.mem_cons_of_mem _ hx)]
  rfl
theorem gw {W:Nat}:∀bd:List Str,(∀r∈bd,Row W r)→(aV bd).length=bd.length*(W+1)
 |[],_=>by simp[aV]
 |r::bd,h=>by
  show ((r.cps.toList++[10])++aV bd).length=_
  have hr:r.cps.toList.length=W:=(h r (List.mem_cons_self ..)).len
  rw[List.length_append,List.length_append,hr,gw bd fun x hx=>h x (List.mem_cons_of_mem _ hx),show (r::bd).length=bd.length+1 from rfl,Nat.add_mul]
  simp
  omega
theorem gu {W:Nat}:∀bd:List Str,1≤bd.length→∃u,aV bd=u++[10]
 |[],h=>by simp at h
 |[r],_=>⟨r.cps.toList,by simp[aV]⟩
 |r::q::bd,_=>by
  obtain⟨u,e⟩:=gu (W:=W) (q::bd) (by simp)
  exact⟨(r.cps.toList++[10])++u,by show (r.cps.toList++[10])++aV (q::bd)=_;rw[e];simp⟩
theorem k6 {W V:Nat}{a b:List Str}(ha:∀r∈a,Row W r) (hb:∀r∈b,Row V r) (e:aV a=aV b):a=b:=by
 have h:=du a ha
 rw[e,du b hb] at h
 have h:=List.append_cancel_right h
 have inj:∀(x y:List Str),x.map (·.cps.toList)=y.map (·.cps.toList)→x=y:=fun x y q=>by
  have:=congrArg (List.map ofL) q
  rw[List.map_map,List.map_map] at this
  have id':∀z:List Str,z.map (ofL∘fun s:Str=>s.cps.toList)=z:=fun z=>by
   conv=>rhs;rw[←List.map_id z]
   exact List.map_congr_left fun s _=>bX s
  rwa [id',id'] at this
 exact(inj _ _ h).symm
theorem jw {bd:List Str}{W:Nat}(hG:Good bd W):aZ [brd bd]=M.ret (.str (ofL (aV bd))):=by
 have hg:=hG.brd
 have r5:=hG.r5
 have w5:=hG.w5
 refine bH (aw (mI (d:= .non) ((aH (ds:=[brd bd]) rfl rfl).trans hg.nb)) ?_)
 refine aS ((aH (ds:=[brd bd]) rfl rfl).trans ?_)
 refine bH (aS ?_)
 have cm:bf 0 (m7 (mX (dV 0)) (gO (dV 0))) bN (d2 bx (dV 0) (dC (.str "\n"))) [fz (brd bd)]=M.ret (.lst ((bd.map (· ++("\n":Str))).map D.str)):=by
  refine cj (ds:=bd.map D.str) rfl ?_ (by rw[List.length_map,List.length_map,cJ];omega)
  rw[cf (g:=fun d=>match d with | .str r=> .str (r++("\n":Str)) | d=>d)]
  ·rw[List.map_map,List.map_map]
   rfl
  ·intro d hd
   obtain⟨r,hr,rfl⟩:=List.mem_map.mp hd
   rw[fi]
   have e:d2 bx (dV 0) (dC (.str "\n")) (fz (.str r)::[fz (brd bd)])=M.ret (.str (r++("\n":Str))):=(bK (x:= .str r) (y:= .str "\n") rfl rfl).trans (if_pos (by
    have:=(hg.rows r hr).len
    have e1:("\n":Str).length=1:=rfl
    rw[cJ,this,e1]
    omega))
   rw[e]
   rfl
 show (if isS (.str "") then((aC _ aN) [fz (brd bd)]>>=fun ds=>joinM (.str "") ds) else M.stuck)=_
 rw[if_pos (show isS (.str "")=true from rfl),cw cm (xs:=[]) rfl,ai]
 show (match dQ ((bd.map (· ++("\n":Str))).map D.str) with | some (xs:List Str)=>if ("":Str).length=0∧(xs.map fun x:Str=>x.length).sum≤lim then M.ret (D.str (br xs)) else M.stuck | none=>M.stuck)=_
 rw[ee]
 have hs:((bd.map (· ++("\n":Str))).map (·.length)).sum≤4096:=by
  have:=jY (n:=6) (bd.map (· ++("\n":Str))) fun x hx=>by
   obtain⟨r,hr,rfl⟩:=List.mem_map.mp hx
   have:=(hg.rows r hr).len
   rw[aO,this]
   have e1:("\n":Str).length=1:=rfl
   omega
  rw[List.length_map] at this
  omega
 show (if ("":Str).length=0∧((bd.map (· ++("\n":Str))).map (·.length)).sum≤lim then M.ret (D.str (br (bd.map (· ++("\n":Str))))) else M.stuck)=_
 rw[if_pos ⟨rfl,hs⟩]
 congr 2
 refine dO ?_
 rw[eh,bG,List.map_map]
 unfold aV
 congr 1
 refine List.map_congr_left fun r _=>?_
 show (r++("\n":Str)).cps.toList=_
 rw[cx]
 rfl
theorem kN {bd:List Str}{W:Nat}(hG:Good bd W):dj (aV bd)=brd bd:=by
 obtain⟨u,e⟩:=gu (W:=W) bd hG.r1
 have h:=du bd hG.rows
 rw[e,eZ] at h
 have h:=List.append_cancel_right h
 have e2:pD u=bd.map D.str:=by
  show (spL 10 u).map _=_
  rw[h,List.map_map]
  exact List.map_congr_left fun r _=>congrArg D.str (bX r)
 rw[e,gP,e2]
 exact if_pos hG.brd.board
end K1
namespace K1
open PySem L2 L3 HT
theorem nj {ds:List D}(h:ds.length≤4096):mkC ds=M.ret (.lst ds):=if_pos h
theorem j4 {ρ:Rho}{xs:List Str}{δs:DA}{n k:Nat}(e0:(frz 6 ρ)[6]? =some (fz (.lst (xs.map D.str)))) (hx:∀x∈xs,x.length≤n) (ha:AX n k δs (frz 6 ρ)) (hl:xs.length+k≤4096):
 ∃ys:List Str,(∀y∈ys,y.length≤n)∧ys.length≤xs.length+k∧sFz 6 (gG 6 (fun ρ=>(dV 6) ρ>>=fun x=>(dA bz δs) ρ>>=fun y=>kK x y)) ρ=M.ret (.nx ((frz 6 ρ).set 6 (some (.ow (.lst (ys.map D.str)))))):=by
 obtain⟨zs,e,h1,h2⟩:=ha
 refine⟨xs++zs,fun y hy=>?_,by rw[List.length_append];omega,?_⟩
 ·rcases List.mem_append.mp hy with h | h
  ·exact hx y h
  ·exact h1 y h
 ·show ((dV 6 (frz 6 ρ)>>=fun x=>dA bz δs (frz 6 ρ)>>=fun y=>kK x y)>>=fun c=>M.ret (Out.nx ((frz 6 ρ).set 6 (some (Sl.ow c)))))=_
  rw[jG e0,ai,gN e,i3 (by rw[cJ,List.length_map];omega),ai]
  show ((if (xs.map D.str).length+(zs.map D.str).length≤lim then M.ret (C.lst (xs.map D.str++zs.map D.str)) else M.stuck)>>=fun c=>M.ret (Out.nx ((frz 6 ρ).set 6 (some (Sl.ow c)))))=_
  rw[if_pos (by rw[cJ,List.length_map,List.length_map];omega),List.map_append]
  rfl
theorem jH (ns:List Int) (hl:ns.length≤63) (k:Nat) (m:Nat) (hm:0<m) {δ:DE}{ρ:Rho}(h0:ρ[0]? =some (fz (.scr ns))) (hδ:δ ρ=M.ret (.int (m:Int))):
 ∃v:Nat,v<m∧az 3 ak (aC (dV 0) (aC (dC (.int (k:Int))) (aC δ aN))) ρ=M.ret (.int (v:Int)):=by
 obtain⟨v,hv,e⟩:=ck ns hl k m hm
 exact⟨v,hv,(aH (ds:=[.scr ns, .int (k:Int), .int (m:Int)]) (cw (jG h0) (cw rfl (cw hδ rfl))) rfl).trans e⟩
theorem lR (ns:List Int) (hl:ns.length≤63):cW [.scr ns]=M.ret (.bl true):=by
 obtain⟨bd,W,hG,eb⟩:=gj ns hl 0 5 (by decide) (by decide)
 obtain⟨od,V,hO,eo⟩:=gj ns hl 50 5 (by decide) (by decide)
 have hlen:(aV bd).length≤30:=by
  rw[gw bd hG.rows]
  exact Nat.le_trans (Nat.mul_le_mul hG.r5 (Nat.succ_le_succ hG.w5)) (by decide)
 have htx:=jw hG
 have hot:=jw hO
 have hdl:=kN hG
 have hinj:(decide (ofL (aV od)=ofL (aV bd))==decide (bd=od))=true:=by
  by_cases h:bd=od
  ·subst h;simp
  ·rw[decide_eq_false h,decide_eq_false (fun z=>h (k6 hG.rows hO.rows (nr z).symm))]
   rfl
 generalize hT:aV bd=T at*
 have hxl:(ofL T).length=T.length:=dr T
 refine bH ?_
 refine aw (ρ':=[fz (.scr ns),fz (brd bd),none,none,none,none,none,none,none,none,none]) ((aG (d:=brd bd) ((aH (ds:=[.scr ns, .int 0, .int 5]) rfl rfl).trans eb)).trans rfl) ?_
 refine aw (ρ':=[fz (.scr ns),fz (brd bd),fz (brd od),none,none,none,none,none,none,none,none]) ((aG (d:=brd od) ((aH (ds:=[.scr ns, .int 50, .int 5]) rfl rfl).trans eo)).trans rfl) ?_
 refine aw (ρ':=[fz (.scr ns),fz (brd bd),fz (brd od),fz (.str (ofL T)),none,none,none,none,none,none,none]) ((aG (d:= .str (ofL T)) ((aH (ds:=[brd bd]) rfl rfl).trans htx)).trans rfl) ?_
 obtain⟨at',hat,e3⟩:=jH ns hl 100 (T.length+1) (by omega) (ρ:=[fz (.scr ns),fz (brd bd),fz (brd od),fz (.str (ofL T)),none,none,none,none,none,none,none]) (δ:=d2 a6 (dA bp (aC (dV 3) aN)) (dC (.int 1))) rfl (by
  show M.ret (D.int (((ofL T).length:Int)+1))=_
  rw[hxl]
  rfl)
 refine aw (ρ':=[fz (.scr ns),fz (brd bd),fz (brd od),fz (.str (ofL T)),fz (.int (at':Int)),none,none,none,none,none,none]) ((aG e3).trans rfl) ?_
 obtain⟨si,hsi,e4⟩:=jH ns hl 101 9 (by decide) (ρ:=[fz (.scr ns),fz (brd bd),fz (brd od),fz (.str (ofL T)),fz (.int (at':Int)),none,none,none,none,none,none]) (δ:=dC (.int 9)) rfl rfl
 obtain⟨c,_,_,e5⟩:=iU (x:="abfgA \n.0") (i:=si) (by have:("abfgA \n.0":Str).length=9:=rfl;omega)
 refine aw (ρ':=[fz (.scr ns),fz (brd bd),fz (brd od),fz (.str (ofL T)),fz (.int (at':Int)),fz (.str ⟨#[c]⟩),none,none,none,none,none]) ((aG ((bK (x:= .str "abfgA \n.0") rfl e4).trans e5)).trans rfl) ?_
 have v3:∀{r:List (Option Sl)},TX 30 (dV 3) (fz (.scr ns)::fz (brd bd)::fz (brd od)::fz (.str (ofL T))::r):=⟨ofL T,rfl,by omega⟩
 have v5:∀{r:List (Option Sl)}{a:Option Sl},TX 1 (dV 5) (fz (.scr ns)::fz (brd bd)::fz (brd od)::fz (.str (ofL T))::a::fz (.str ⟨#[c]⟩)::r):=⟨⟨#[c]⟩,rfl,Nat.le_refl _⟩
 obtain⟨xs,f1,f2,f3⟩:AX 270 4 (aC (dV 3) (aC (d2 bx (dSl (dV 3) oN (oS (dV 4))) (dSl (dV 3) (oS (d2 a6 (dV 4) (dC (.int 1)))) oN)) (aC (d2 bx (dSl (dV 3) oN (oS (d2 a6 (dV 4) (dC (.int 1))))) (dSl (dV 3) (oS (dV 4)) oN)) (aC (d2 bx (d2 bx (dSl (dV 3) oN (oS (dV 4))) (dV 5)) (dSl (dV 3) (oS (d2 a6 (dV 4) (dC (.int 1)))) oN)) aN)))) [fz (.scr ns),fz (brd bd),fz (brd od),fz (.str (ofL T)),fz (.int (at':Int)),fz (.str ⟨#[c]⟩),none,none,none,none,none]:=by
  refine AX.cons (TX.mono v3 (by decide)) (AX.cons ?_ (AX.cons ?_ (AX.cons ?_ AX.nil)))
  ·exact TX.mono (TX.add (TX.sl v3 rfl rfl) (TX.sl v3 rfl rfl) (by decide)) (by decide)
  ·exact TX.mono (TX.add (TX.sl v3 rfl rfl) (TX.sl v3 rfl rfl) (by decide)) (by decide)
  ·exact TX.mono (TX.add (TX.add (TX.sl v3 rfl rfl) v5 (by decide)) (TX.sl v3 rfl rfl) (by decide)) (by decide)
 refine aw (ρ':=[fz (.scr ns),fz (brd bd),fz (brd od),fz (.str (ofL T)),fz (.int (at':Int)),fz (.str ⟨#[c]⟩),some (.ow (.lst (xs.map D.str))),none,none,none,none]) ?_ ?_
 ·show ((_>>=mkC)>>=fun c=>M.ret (Out.nx _))=_
  rw[f1,ai,nj (by rw[List.length_map];omega)]
  rfl
 obtain⟨ys,g1,g2,g3⟩:=j4 (ρ:=[fz (.scr ns),fz (brd bd),fz (brd od),fz (.str (ofL T)),fz (.int (at':Int)),fz (.str ⟨#[c]⟩),some (.ow (.lst (xs.map D.str))),none,none,none,none]) (xs:=xs) (n:=270) (k:=8) rfl f2
  (δs:=aC (d2 bx (d2 bx (dSl (dV 3) oN (oS (dV 4))) (dV 5)) (dSl (dV 3) (oS (dV 4)) oN)) (aC (dC (.str "")) (aC (dC (.str "\n")) (aC (dC (.str "a")) (aC (dC (.str "a\n")) (aC (dSl (dV 3) oN (oS (d1 g6 (dC (.int 1))))) (aC (d2 fj (dV 3) (dC (.int 2))) (aC (d2 fj (dV 3) (dC (.int 9))) aN)))))))) (by
   have cst:∀(z:Str) {ρ:Rho},z.length≤270→TX 270 (dC (.str z)) ρ:=fun z _ h=>⟨z,rfl,h⟩
   refine AX.cons ?_ (AX.cons (cst _ (by decide)) (AX.cons (cst _ (by decide)) (AX.cons (cst _ (by decide)) (AX.cons (cst _ (by decide)) (AX.cons ?_ (AX.cons ?_ (AX.cons ?_ AX.nil)))))))
   ·exact TX.mono (TX.add (TX.add (TX.sl v3 rfl rfl) v5 (by decide)) (TX.sl v3 rfl rfl) (by decide)) (by decide)
   ·exact TX.mono (TX.sl v3 rfl rfl) (by decide)
   ·exact TX.mono (TX.rep (k:=2) v3 (by decide) (by decide)) (by decide)
   ·exact TX.mono (TX.rep (k:=9) v3 (by decide) (by decide)) (by decide)) (by omega)
 refine aw (ρ':=[fz (.scr ns),fz (brd bd),fz (brd od),fz (.str (ofL T)),fz (.int (at':Int)),fz (.str ⟨#[c]⟩),some (.ow (.lst (ys.map D.str))),none,none,none,none]) (g3.trans rfl) ?_
 have hsp:pD T=((spL 10 T).map ofL).map D.str:=by rw[List.map_map];rfl
 have hne:=mL 10 T
 have hcnt:((spL 10 T).map ofL).length≤32:=by
  have:=PyProof.Rows.split_le (ofL T) ⟨#[10]⟩
  rw[fM,hxl] at this
  omega
 have hpl:∀x∈(spL 10 T).map ofL,x.length≤30:=fun x hx=>by
  have:=PyProof.Rows.part_short (x:=ofL T) (y:=⟨#[10]⟩) (a:=x) (by rw[fM];exact hx)
  omega
 have hpos:0<((spL 10 T).map ofL).length:=by
  rw[List.length_map]
  exact List.length_pos_iff.mpr hne
 generalize (spL 10 T).map ofL=ls at hsp hcnt hpl hpos
 refine aw (ρ':=[fz (.scr ns),fz (brd bd),fz (brd od),fz (.str (ofL T)),fz (.int (at':Int)),fz (.str ⟨#[c]⟩),some (.ow (.lst (ys.map D.str))),fz (.lst (ls.map D.str)),none,none,none]) ((aG (d:= .lst (ls.map D.str)) ?_).trans rfl) ?_
 ·show (if isS (.str (ofL T)) then(M.ret [D.str "\n"]>>=fun ds=>splitM (.str (ofL T)) ds) else M.stuck)=_
  rw[←hsp]
  exact(if_pos rfl).trans (di (by omega))
 obtain⟨to,hto,e6⟩:=jH ns hl 102 ls.length hpos (ρ:=[fz (.scr ns),fz (brd bd),fz (brd od),fz (.str (ofL T)),fz (.int (at':Int)),fz (.str ⟨#[c]⟩),some (.ow (.lst (ys.map D.str))),fz (.lst (ls.map D.str)),none,none,none]) (δ:=dA bp (aC (dV 7) aN)) rfl (by
  show M.ret (D.int ((ls.map D.str).length:Int))=_
  rw[List.length_map])
 refine aw (ρ':=[fz (.scr ns),fz (brd bd),fz (brd od),fz (.str (ofL T)),fz (.int (at':Int)),fz (.str ⟨#[c]⟩),some (.ow (.lst (ys.map D.str))),fz (.lst (ls.map D.str)),fz (.int (to:Int)),none,none]) ((aG e6).trans rfl) ?_
 have v7:∀{a b d e:Option Sl}{r:List (Option Sl)},LX 30 32 (dV 7) (fz (.scr ns)::fz (brd bd)::fz (brd od)::a::b::d::e::fz (.lst (ls.map D.str))::r):=⟨ls,rfl,hpl,hcnt⟩
 obtain⟨zs,k1,k2,k3⟩:=j4 (ρ:=[fz (.scr ns),fz (brd bd),fz (brd od),fz (.str (ofL T)),fz (.int (at':Int)),fz (.str ⟨#[c]⟩),some (.ow (.lst (ys.map D.str))),fz (.lst (ls.map D.str)),fz (.int (to:Int)),none,none]) (xs:=ys) (n:=4000) (k:=2) rfl (fun y hy=>Nat.le_trans (g1 y hy) (by decide))
  (δs:=aC (dM isS bW (dC (.str "\n")) (aC (d2 cN (dSl (dV 7) oN (oS (dV 8))) (dSl (dV 7) (oS (d2 a6 (dV 8) (dC (.int 1)))) oN)) aN)) (aC (dM isS bW (dC (.str "\n")) (aC (d2 cN (dSl (dV 7) oN (oS (d2 a6 (dV 8) (dC (.int 1))))) (dSl (dV 7) (oS (dV 8)) oN)) aN)) aN)) (by
   refine AX.cons ?_ (AX.cons ?_ AX.nil)
   ·exact TX.mono (LX.join (LX.cat (LX.sl v7 rfl rfl) (LX.sl v7 rfl rfl) (by decide)) (by decide)) (by decide)
   ·exact TX.mono (LX.join (LX.cat (LX.sl v7 rfl rfl) (LX.sl v7 rfl rfl) (by decide)) (by decide)) (by decide)) (by omega)
 refine aw (ρ':=[fz (.scr ns),fz (brd bd),fz (brd od),fz (.str (ofL T)),fz (.int (at':Int)),fz (.str ⟨#[c]⟩),some (.ow (.lst (zs.map D.str))),fz (.lst (ls.map D.str)),fz (.int (to:Int)),none,none]) (k3.trans rfl) ?_
 obtain⟨es,m1,m2,m3⟩:LX 30 96 (d2 cN (d2 cN (dSl (dV 7) oN (oS (dV 8))) (iL (dSl (dV 7) (oS (dV 8)) (oS (d2 a6 (dV 8) (dC (.int 2))))) (d1 g6 (dC (.int 1))))) (dSl (dV 7) (oS (d2 a6 (dV 8) (dC (.int 2)))) oN)) [fz (.scr ns),fz (brd bd),fz (brd od),fz (.str (ofL T)),fz (.int (at':Int)),fz (.str ⟨#[c]⟩),some (.ow (.lst (zs.map D.str))),fz (.lst (ls.map D.str)),fz (.int (to:Int)),none,none]:=
  LX.cat (LX.cat (LX.sl v7 rfl rfl) (LX.rev (LX.sl v7 rfl rfl)) (by decide)) (LX.sl v7 rfl rfl) (by decide)
 refine aw (ρ':=[fz (.scr ns),fz (brd bd),fz (brd od),fz (.str (ofL T)),fz (.int (at':Int)),fz (.str ⟨#[c]⟩),some (.ow (.lst (zs.map D.str))),fz (.lst (ls.map D.str)),fz (.int (to:Int)),fz (.lst (es.map D.str)),none]) ((aG m1).trans rfl) ?_
 obtain⟨jx,n1,n2⟩:TX (96*30+96) (dM isS bW (dC (.str "\n")) (aC (dV 9) aN)) [fz (.scr ns),fz (brd bd),fz (brd od),fz (.str (ofL T)),fz (.int (at':Int)),fz (.str ⟨#[c]⟩),some (.ow (.lst (zs.map D.str))),fz (.lst (ls.map D.str)),fz (.int (to:Int)),fz (.lst (es.map D.str)),none]:=
  LX.join (a:=dV 9) (n:=30) (k:=96) ⟨es,rfl,m2,m3⟩ (by decide)
 refine aw (ρ':=[fz (.scr ns),fz (brd bd),fz (brd od),fz (.str (ofL T)),fz (.int (at':Int)),fz (.str ⟨#[c]⟩),some (.ow (.lst ((zs++[jx]).map D.str))),fz (.lst (ls.map D.str)),fz (.int (to:Int)),fz (.lst (es.map D.str)),none]) ?_ ?_
 ·show (dM isS bW (dC (.str "\n")) (aC (dV 9) aN) _>>=fun d=>if (zs.map D.str).length<lim then M.ret (Out.nx _) else M.stuck)=_
  rw[n1,ai,if_pos (by rw[List.length_map,cJ];omega),List.map_append]
  rfl
 have hws:∀x∈zs++[jx],x.length≤4000:=fun x hx=>by
  rcases List.mem_append.mp hx with h | h
  ·exact k1 x h
  ·have h:x=jx:=by simpa using h
   subst h
   omega
 generalize zs++[jx]=ws at hws
 refine aw (ρ':=[fz (.scr ns),fz (brd bd),fz (brd od),fz (.str (ofL T)),fz (.int (at':Int)),fz (.str ⟨#[c]⟩),fz (.lst (ws.map D.str)),fz (.lst (ls.map D.str)),fz (.int (to:Int)),fz (.lst (es.map D.str)),none]) ?_ ?_
 ·refine nq (qr (ds:=ws.map D.str) rfl (gr D.str _ ws fun x hx=>?_))
  refine⟨_,rfl,?_⟩
  have hx4:=hws x hx
  have q1:aW [.str x]=M.ret (dj x.cps.toList):=by
   have:=mR x.cps.toList (by show x.length+2≤4096;omega)
   rwa [bX] at this
  have q2:a5 [.str x]=M.ret (dj x.cps.toList):=by
   have:=j7 x.cps.toList (by show x.length+2≤4096;omega)
   rwa [bX] at this
  have q3:gNe (dj x.cps.toList) (dj x.cps.toList)=M.ret (.bl false):=by
   unfold dj
   split
   ·have:=oW gQ (by decide) ((spL 10 x.cps.toList.dropLast).map ofL) ((spL 10 x.cps.toList.dropLast).map ofL)
    rw[decide_eq_true rfl] at this
    unfold brd at this
    rw[List.map_map] at this
    exact this
   ·rfl
  refine(kA (fK (qt ((bK ((aH (ds:=[.str x]) rfl rfl).trans q1) ((aH (ds:=[.str x]) rfl rfl).trans q2)).trans q3)) rfl)).trans rfl
 have q4:a5 [.str (ofL T)]=M.ret (brd bd):=by rw[j7 T (by omega),hdl]
 refine aS ((mW (p:=true) (q:=true) ?_ ?_).trans rfl)
 ·refine(bK (x:= .bl (decide (ofL (aV od)=ofL T))) (y:= .bl (decide (bd=od))) ?_ ?_).trans ?_
  ·exact(bK (x:= .str (ofL (aV od))) (y:= .str (ofL T)) ((aH (ds:=[brd od]) rfl rfl).trans hot) rfl).trans (eU _ _)
  ·exact(bK (x:=brd bd) (y:=brd od) rfl rfl).trans (jJ gQ (by decide) bd od)
  ·show M.ret (D.bl (decide (ofL (aV od)=ofL T)==decide (bd=od)))=_
   rw[hinj]
 ·refine(bK (x:=brd bd) (y:=brd bd) ((aH (ds:=[.str (ofL T)]) rfl rfl).trans q4) rfl).trans ((jJ gQ (by decide) bd bd).trans ?_)
  rw[decide_eq_true rfl]
end K1
namespace K1
open PySem PySem.Spec L2 L3
open PyProof.Rows hiding St
def mkA (c0 c3 c7:Addr):Nat→Addr
 |0=>c0
 |3=>c3
 |_=>c7
theorem all_mk {P:Program}{w:World}{K:PySem.W.Frag}{h:Heap}{mg:Str→Option Value}{fa:Addr}(X:K.In h) (G:h.Ns mainGlobals mg) (hfa:mg "law"=some (.ref fa))
 {f_is_letterA:Addr}{od_is_letter an_is_letter:Option Addr}{sl_is_letter:Array (Option Value)}{oc_is_letter kV_is_letter dc_is_letter pm_is_letter cd_is_letter ct_is_letter:Value}
 {f_as_linesA:Addr}{od_as_lines an_as_lines:Option Addr}{sl_as_lines:Array (Option Value)}{oc_as_lines kV_as_lines dc_as_lines pm_as_lines cd_as_lines ct_as_lines:Value}
 {f_law_cellA:Addr}{od_law_cell an_law_cell:Option Addr}{sl_law_cell:Array (Option Value)}{oc_law_cell kV_law_cell dc_law_cell pm_law_cell cd_law_cell ct_law_cell:Value}
 {f_is_rowA:Addr}{od_is_row an_is_row:Option Addr}{sl_is_row:Array (Option Value)}{oc_is_row kV_is_row dc_is_row pm_is_row cd_is_row ct_is_row:Value}
 {f_law_drawnA:Addr}{od_law_drawn an_law_drawn:Option Addr}{sl_law_drawn:Array (Option Value)}{oc_law_drawn kV_law_drawn dc_law_drawn pm_law_drawn cd_law_drawn ct_law_drawn:Value}
 {f_is_boardA:Addr}{od_is_board an_is_board:Option Addr}{sl_is_board:Array (Option Value)}{oc_is_board kV_is_board dc_is_board pm_is_board cd_is_board ct_is_board:Value}
 {f_law_boardA:Addr}{od_law_board an_law_board:Option Addr}{sl_law_board:Array (Option Value)}{oc_law_board kV_law_board dc_law_board pm_law_board cd_law_board ct_law_board:Value}
 {f_need_boardA:Addr}{od_need_board an_need_board:Option Addr}{sl_need_board:Array (Option Value)}{oc_need_board kV_need_board dc_need_board pm_need_board cd_need_board ct_need_board:Value}
 {f_read_boardA:Addr}{od_read_board an_read_board:Option Addr}{sl_read_board:Array (Option Value)}{oc_read_board kV_read_board dc_read_board pm_read_board cd_read_board ct_read_board:Value}
 {f_law_dueA:Addr}{od_law_due an_law_due:Option Addr}{sl_law_due:Array (Option Value)}{oc_law_due kV_law_due dc_law_due pm_law_due cd_law_due ct_law_due:Value}
 {f_board_textA:Addr}{od_board_text an_board_text:Option Addr}{sl_board_text:Array (Option Value)}{oc_board_text kV_board_text dc_board_text pm_board_text cd_board_text ct_board_text:Value}
 {f_law_told_v16A:Addr}{od_law_told_v16 an_law_told_v16:Option Addr}{sl_law_told_v16:Array (Option Value)}{oc_law_told_v16 kV_law_told_v16 dc_law_told_v16 pm_law_told_v16 cd_law_told_v16 ct_law_told_v16:Value}
 {f_law_k81A:Addr}{od_law_k81 an_law_k81:Option Addr}{sl_law_k81:Array (Option Value)}{oc_law_k81 kV_law_k81 dc_law_k81 pm_law_k81 cd_law_k81 ct_law_k81:Value}
 {t_LETTERS:Tok}
 {t_MOST_ROWS:Tok}
 {t_MOST_COLUMNS:Tok}
 {C0 C3 C7 Cp:Addr}{r7:ClassData}
 (a_is_letter:PySem.W.nsIn K mainGlobals "is_letter"=some (some (.ref f_is_letterA))) (l_is_letter:K.lookup f_is_letterA=some ⟨oc_is_letter,od_is_letter, .func (PySem.W.fnOf "is_letter" "is_letter" (aI bh) (aq bh) (af bh) .none kV_is_letter dc_is_letter pm_is_letter an_is_letter cd_is_letter ct_is_letter),sl_is_letter⟩) (c_is_letter:PySem.W.codeIn K cd_is_letter "is_letter"=true) (k_is_letter:PySem.W.keepIn K (.ref f_is_letterA)=true)
 (a_as_lines:PySem.W.nsIn K mainGlobals "as_lines"=some (some (.ref f_as_linesA))) (l_as_lines:K.lookup f_as_linesA=some ⟨oc_as_lines,od_as_lines, .func (PySem.W.fnOf "as_lines" "as_lines" (aI bg) (aq bg) (af bg) .none kV_as_lines dc_as_lines pm_as_lines an_as_lines cd_as_lines ct_as_lines),sl_as_lines⟩) (c_as_lines:PySem.W.codeIn K cd_as_lines "as_lines"=true) (k_as_lines:PySem.W.keepIn K (.ref f_as_linesA)=true)
 (a_law_cell:PySem.W.nsIn K mainGlobals "_law_cell"=some (some (.ref f_law_cellA))) (l_law_cell:K.lookup f_law_cellA=some ⟨oc_law_cell,od_law_cell, .func (PySem.W.fnOf "_law_cell" "_law_cell" (aI bF) (aq bF) (af bF) .none kV_law_cell dc_law_cell pm_law_cell an_law_cell cd_law_cell ct_law_cell),sl_law_cell⟩) (c_law_cell:PySem.W.codeIn K cd_law_cell "_law_cell"=true) (k_law_cell:PySem.W.keepIn K (.ref f_law_cellA)=true)
 (a_is_row:PySem.W.nsIn K mainGlobals "is_row"=some (some (.ref f_is_rowA))) (l_is_row:K.lookup f_is_rowA=some ⟨oc_is_row,od_is_row, .func (PySem.W.fnOf "is_row" "is_row" (aI b0) (aq b0) (af b0) .none kV_is_row dc_is_row pm_is_row an_is_row cd_is_row ct_is_row),sl_is_row⟩) (c_is_row:PySem.W.codeIn K cd_is_row "is_row"=true) (k_is_row:PySem.W.keepIn K (.ref f_is_rowA)=true)
 (a_law_drawn:PySem.W.nsIn K mainGlobals "_law_drawn"=some (some (.ref f_law_drawnA))) (l_law_drawn:K.lookup f_law_drawnA=some ⟨oc_law_drawn,od_law_drawn, .func (PySem.W.fnOf "_law_drawn" "_law_drawn" (aI bj) (aq bj) (af bj) .none kV_law_drawn dc_law_drawn pm_law_drawn an_law_drawn cd_law_drawn ct_law_drawn),sl_law_drawn⟩) (c_law_drawn:PySem.W.codeIn K cd_law_drawn "_law_drawn"=true) (k_law_drawn:PySem.W.keepIn K (.ref f_law_drawnA)=true)
 (a_is_board:PySem.W.nsIn K mainGlobals "is_board"=some (some (.ref f_is_boardA))) (l_is_board:K.lookup f_is_boardA=some ⟨oc_is_board,od_is_board, .func (PySem.W.fnOf "is_board" "is_board" (aI a_) (aq a_) (af a_) .none kV_is_board dc_is_board pm_is_board an_is_board cd_is_board ct_is_board),sl_is_board⟩) (c_is_board:PySem.W.codeIn K cd_is_board "is_board"=true) (k_is_board:PySem.W.keepIn K (.ref f_is_boardA)=true)
 (a_law_board:PySem.W.nsIn K mainGlobals "_law_board"=some (some (.ref f_law_boardA))) (l_law_board:K.lookup f_law_boardA=some ⟨oc_law_board,od_law_board, .func (PySem.W.fnOf "_law_board" "_law_board" (aI ba) (aq ba) (af ba) .none kV_law_board dc_law_board pm_law_board an_law_board cd_law_board ct_law_board),sl_law_board⟩) (c_law_board:PySem.W.codeIn K cd_law_board "_law_board"=true) (k_law_board:PySem.W.keepIn K (.ref f_law_boardA)=true)
 (a_need_board:PySem.W.nsIn K mainGlobals "need_board"=some (some (.ref f_need_boardA))) (l_need_board:K.lookup f_need_boardA=some ⟨oc_need_board,od_need_board, .func (PySem.W.fnOf "need_board" "need_board" (aI bc) (aq bc) (af bc) .none kV_need_board dc_need_board pm_need_board an_need_board cd_need_board ct_need_board),sl_need_board⟩) (c_need_board:PySem.W.codeIn K cd_need_board "need_board"=true) (k_need_board:PySem.W.keepIn K (.ref f_need_boardA)=true)
 (a_read_board:PySem.W.nsIn K mainGlobals "read_board"=some (some (.ref f_read_boardA))) (l_read_board:K.lookup f_read_boardA=some ⟨oc_read_board,od_read_board, .func (PySem.W.fnOf "read_board" "read_board" (aI be) (aq be) (af be) .none kV_read_board dc_read_board pm_read_board an_read_board cd_read_board ct_read_board),sl_read_board⟩) (c_read_board:PySem.W.codeIn K cd_read_board "read_board"=true) (k_read_board:PySem.W.keepIn K (.ref f_read_boardA)=true)
 (a_law_due:PySem.W.nsIn K mainGlobals "_law_due"=some (some (.ref f_law_dueA))) (l_law_due:K.lookup f_law_dueA=some ⟨oc_law_due,od_law_due, .func (PySem.W.fnOf "_law_due" "_law_due" (aI bS) (aq bS) (af bS) .none kV_law_due dc_law_due pm_law_due an_law_due cd_law_due ct_law_due),sl_law_due⟩) (c_law_due:PySem.W.codeIn K cd_law_due "_law_due"=true) (k_law_due:PySem.W.keepIn K (.ref f_law_dueA)=true)
 (a_board_text:PySem.W.nsIn K mainGlobals "board_text"=some (some (.ref f_board_textA))) (l_board_text:K.lookup f_board_textA=some ⟨oc_board_text,od_board_text, .func (PySem.W.fnOf "board_text" "board_text" (aI bb) (aq bb) (af bb) .none kV_board_text dc_board_text pm_board_text an_board_text cd_board_text ct_board_text),sl_board_text⟩) (c_board_text:PySem.W.codeIn K cd_board_text "board_text"=true) (k_board_text:PySem.W.keepIn K (.ref f_board_textA)=true)
 (a_law_told_v16:PySem.W.nsIn K mainGlobals "_law_told"=some (some (.ref f_law_told_v16A))) (l_law_told_v16:K.lookup f_law_told_v16A=some ⟨oc_law_told_v16,od_law_told_v16, .func (PySem.W.fnOf "_law_told" "_law_told" (aI aY) (aq aY) (af aY) .none kV_law_told_v16 dc_law_told_v16 pm_law_told_v16 an_law_told_v16 cd_law_told_v16 ct_law_told_v16),sl_law_told_v16⟩) (c_law_told_v16:PySem.W.codeIn K cd_law_told_v16 "_law_told"=true) (k_law_told_v16:PySem.W.keepIn K (.ref f_law_told_v16A)=true)
 (a_law_k81:PySem.W.nsIn K mainGlobals "law"=some (some (.ref f_law_k81A))) (l_law_k81:K.lookup f_law_k81A=some ⟨oc_law_k81,od_law_k81, .func (PySem.W.fnOf "law" "law" (aI ag) (aq ag) (af ag) .none kV_law_k81 dc_law_k81 pm_law_k81 an_law_k81 cd_law_k81 ct_law_k81),sl_law_k81⟩) (c_law_k81:PySem.W.codeIn K cd_law_k81 "law"=true) (k_law_k81:PySem.W.keepIn K (.ref f_law_k81A)=true)
 (z_len:PySem.W.nsIn K mainGlobals "len"=some none)
 (z_isinstance:PySem.W.nsIn K mainGlobals "isinstance"=some none)
 (z_all:PySem.W.nsIn K mainGlobals "all"=some none)
 (z_range:PySem.W.nsIn K mainGlobals "range"=some none)
 (z_str:PySem.W.nsIn K mainGlobals "str"=some none)
 (z_tuple:PySem.W.nsIn K mainGlobals "tuple"=some none)
 (z_ValueError:PySem.W.nsIn K mainGlobals "ValueError"=some none)
 (y_LETTERS:PySem.W.nsIn K mainGlobals "LETTERS"=some (some (.str "abcdef" t_LETTERS)))
 (y_MOST_ROWS:PySem.W.nsIn K mainGlobals "MOST_ROWS"=some (some (.int 8 t_MOST_ROWS)))
 (y_MOST_COLUMNS:PySem.W.nsIn K mainGlobals "MOST_COLUMNS"=some (some (.int 8 t_MOST_COLUMNS)))
 (e0:PySem.W.nsIn K mainGlobals "NoBoard"=some (some (.ref C0)))
 (e3:PySem.W.nsIn K mainGlobals "NoLetter"=some (some (.ref C3)))
 (e7:PySem.W.nsIn K mainGlobals "NoText"=some (some (.ref C7)))
 (ep:PySem.W.nsIn K mainGlobals "PatchError"=some (some (.ref Cp)))
 (sp:PySem.W.subIn K (.ref Cp) (.type "BaseException")=some true)
 (q7:PySem.W.excIn K C7 [.type "ValueError", .type "Exception", .type "BaseException", .type "object"] "ValueError.__new__"=true)
 (ga7:PySem.W.findIn K (.ref C7) "__getattribute__"=some (some (.builtin "BaseException.__getattribute__"))) (gt7:PySem.W.findIn K (.ref C7) "__getattr__"=some none) (ca7:PySem.W.findIn K (.ref C7) "__class__"=some (some (.builtin "object.__class__"))) (mo7:PySem.W.mroIn K C7 (.type "object")=some true) (mb7:PySem.W.mroIn K C7 (.type "BaseException")=some true) (cl7:PySem.W.clsIn K C7=some r7)
 (kp7:PySem.W.kitOne K (.ref C7) (.ref Cp)=some true) (kv7:PySem.W.kitOne K (.ref C7) (.type "ValueError")=some true) (np7:((Value.ref C7)==(Value.ref Cp))=false)
 (k70:PySem.W.kitOne K (.ref C7) (.ref C0)=some false)
 (k73:PySem.W.kitOne K (.ref C7) (.ref C3)=some false)
 (k77:PySem.W.kitOne K (.ref C7) (.ref C7)=some true):
 ∃(cv:Nat→Value) (fd:FuncData),(∀(s:Shared) (u:Value),BindsTo s fd ⟨[u],[]⟩ [("_law_script",u)])∧∀base:Heap,K.In base→base.Ns mainGlobals mg→FnOk P w K mg base (CX1 P w cv) 6 fa fd ["_law_script"] (spD K cv 1 cW):=by
 have ea:=hfa.symm.trans (PySem.W.mg_of X G a_law_k81)
 cases ea
 refine⟨fun n=> .ref (cB (mkA C0 C3 C7) n),PySem.W.fnOf "law" "law" (aI ag) (aq ag) (af ag) .none kV_law_k81 dc_law_k81 pm_law_k81 an_law_k81 cd_law_k81 ct_law_k81,fun s v=> .of_eq rfl,fun base KB GB=>?_⟩
 have B:Bl K mg base (fun n=> .ref (cB (mkA C0 C3 C7) n)) (mkA C0 C3 C7) Cp:=by
  refine⟨PySem.W.mg_none_of X G z_len,PySem.W.mg_none_of X G z_isinstance,PySem.W.mg_none_of X G z_all,PySem.W.mg_none_of X G z_range,PySem.W.mg_none_of X G z_str,PySem.W.mg_none_of X G z_tuple,PySem.W.mg_none_of X G z_ValueError,⟨_,PySem.W.mg_of X G y_LETTERS⟩,⟨_,PySem.W.mg_of X G y_MOST_ROWS⟩,⟨_,PySem.W.mg_of X G y_MOST_COLUMNS⟩,PySem.W.mg_of X G e0,PySem.W.mg_of X G e3,PySem.W.mg_of X G e7,pf KB GB e7 q7,fun _=>rfl,PySem.W.mg_of X G ep,?exm,?exs,?kit,?kitV⟩
  case exm=>
   intro n
   have h:∀m,m∈[7]→PySem.W.exmOne K (.ref ((mkA C0 C3 C7) m)) (.ref Cp)=some true:=by
    intro m hm
    simp only[List.mem_cons,List.not_mem_nil,or_false] at hm
    rcases hm with rfl
    ·exact oX sp kp7 np7
   exact h (rzI n) (oh n)
  case exs=>
   intro C hC
   simp only[cAs,mkA,List.mem_cons,List.not_mem_nil,or_false] at hC
   subst hC
   ·exact⟨ga7,gt7,ca7,mo7,mb7,by rw[cl7];rfl⟩
  case kit=>
   intro n m hn hm
   simp only[List.mem_cons,List.not_mem_nil,or_false] at hn hm
   rcases hn with rfl
   ·rcases hm with rfl | rfl | rfl
    ·exact k70
    ·exact k73
    ·exact k77
  case kitV=>
   intro n hn
   simp only[List.mem_cons,List.not_mem_nil,or_false] at hn
   rcases hn with rfl
   ·exact kv7
 have o_is_letter:=g7 (P:=P) (w:=w) B ⟨PySem.W.mg_of X G a_is_letter,_,bC (st:=bh) l_is_letter c_is_letter k_is_letter⟩
 have o_as_lines:=i8 (P:=P) (w:=w) B ⟨PySem.W.mg_of X G a_as_lines,_,bC (st:=bg) l_as_lines c_as_lines k_as_lines⟩
 have o_law_cell:=i_ (P:=P) (w:=w) B ⟨PySem.W.mg_of X G a_law_cell,_,bC (st:=bF) l_law_cell c_law_cell k_law_cell⟩
 have o_is_row:=k9 (P:=P) (w:=w) B o_is_letter ⟨PySem.W.mg_of X G a_is_row,_,bC (st:=b0) l_is_row c_is_row k_is_row⟩
 have o_law_drawn:=g9 (P:=P) (w:=w) B o_law_cell ⟨PySem.W.mg_of X G a_law_drawn,_,bC (st:=bj) l_law_drawn c_law_drawn k_law_drawn⟩
 have o_is_board:=i9 (P:=P) (w:=w) B o_is_row ⟨PySem.W.mg_of X G a_is_board,_,bC (st:=a_) l_is_board c_is_board k_is_board⟩
 have o_law_board:=g8 (P:=P) (w:=w) B o_law_drawn ⟨PySem.W.mg_of X G a_law_board,_,bC (st:=ba) l_law_board c_law_board k_law_board⟩
 have o_need_board:=fU (P:=P) (w:=w) B o_is_board ⟨PySem.W.mg_of X G a_need_board,_,bC (st:=bc) l_need_board c_need_board k_need_board⟩
 have o_read_board:=fV (P:=P) (w:=w) B o_is_board ⟨PySem.W.mg_of X G a_read_board,_,bC (st:=be) l_read_board c_read_board k_read_board⟩
 have o_law_due:=jR (P:=P) (w:=w) B o_is_board ⟨PySem.W.mg_of X G a_law_due,_,bC (st:=bS) l_law_due c_law_due k_law_due⟩
 have o_board_text:=fT (P:=P) (w:=w) B o_need_board o_as_lines ⟨PySem.W.mg_of X G a_board_text,_,bC (st:=bb) l_board_text c_board_text k_board_text⟩
 have o_law_told_v16:=eR (P:=P) (w:=w) B o_read_board ⟨PySem.W.mg_of X G a_law_told_v16,_,bC (st:=aY) l_law_told_v16 c_law_told_v16 k_law_told_v16⟩
 exact i7 B o_law_board o_board_text o_law_drawn o_law_told_v16 o_law_due (bC (st:=ag) l_law_k81 c_law_k81 k_law_k81)
end K1
open PySem PySem.W PyProof.Rows
set_option maxHeartbeats 0 in
theorem PySem.Challenge.cw_cellpatches_k81_whole_read_holds : PySem.Challenge.rw_cellpatches_k81_whole_read.Holds := by
 w_on;o_law;k_head;(case hw=>w_witness2)
 k_fill
 refine L3.qz (l:=PySem.Challenge.rw_cellpatches_k81_whole_read) (k:=6) (n:=63) (x:="_law_script") (g:=K1.cW) rfl (by decide) rfl ⟨rfl,by decide,by decide⟩ (fun w h Y=>PySem.W.kIn_of Y) K1.lR ?F
 case F=>
  intro w mg fa h KX G hmg
  refine' K1.all_mk KX G hmg ?a_is_letter ?l_is_letter ?c_is_letter ?k_is_letter ?a_as_lines ?l_as_lines ?c_as_lines ?k_as_lines ?a_law_cell ?l_law_cell ?c_law_cell ?k_law_cell ?a_is_row ?l_is_row ?c_is_row ?k_is_row ?a_law_drawn ?l_law_drawn ?c_law_drawn ?k_law_drawn ?a_is_board ?l_is_board ?c_is_board ?k_is_board ?a_law_board ?l_law_board ?c_law_board ?k_law_board ?a_need_board ?l_need_board ?c_need_board ?k_need_board ?a_read_board ?l_read_board ?c_read_board ?k_read_board ?a_law_due ?l_law_due ?c_law_due ?k_law_due ?a_board_text ?l_board_text ?c_board_text ?k_board_text ?a_law_told_v16 ?l_law_told_v16 ?c_law_told_v16 ?k_law_told_v16 ?a_law_k81 ?l_law_k81 ?c_law_k81 ?k_law_k81 ?z_len ?z_isinstance ?z_all ?z_range ?z_str ?z_tuple ?z_ValueError ?y_LETTERS ?y_MOST_ROWS ?y_MOST_COLUMNS ?e0 ?e3 ?e7 ?ep ?sp ?q7 ?ga7 ?gt7 ?ca7 ?mo7 ?mb7 ?cl7 ?kp7 ?kv7 ?np7 ?k70 ?k73 ?k77
  (case a_is_letter=>k_is)
  (case l_is_letter=>k_is)
  (case c_is_letter=>k_is)
  (case k_is_letter=>k_is)
  (case a_as_lines=>k_is)
  (case l_as_lines=>k_is)
  (case c_as_lines=>k_is)
  (case k_as_lines=>k_is)
  (case a_law_cell=>k_is)
  (case l_law_cell=>k_is)
  (case c_law_cell=>k_is)
  (case k_law_cell=>k_is)
  (case a_is_row=>k_is)
  (case l_is_row=>k_is)
  (case c_is_row=>k_is)
  (case k_is_row=>k_is)
  (case a_law_drawn=>k_is)
  (case l_law_drawn=>k_is)
  (case c_law_drawn=>k_is)
  (case k_law_drawn=>k_is)
  (case a_is_board=>k_is)
  (case l_is_board=>k_is)
  (case c_is_board=>k_is)
  (case k_is_board=>k_is)
  (case a_law_board=>k_is)
  (case l_law_board=>k_is)
  (case c_law_board=>k_is)
  (case k_law_board=>k_is)
  (case a_need_board=>k_is)
  (case l_need_board=>k_is)
  (case c_need_board=>k_is)
  (case k_need_board=>k_is)
  (case a_read_board=>k_is)
  (case l_read_board=>k_is)
  (case c_read_board=>k_is)
  (case k_read_board=>k_is)
  (case a_law_due=>k_is)
  (case l_law_due=>k_is)
  (case c_law_due=>k_is)
  (case k_law_due=>k_is)
  (case a_board_text=>k_is)
  (case l_board_text=>k_is)
  (case c_board_text=>k_is)
  (case k_board_text=>k_is)
  (case a_law_told_v16=>k_is)
  (case l_law_told_v16=>k_is)
  (case c_law_told_v16=>k_is)
  (case k_law_told_v16=>k_is)
  (case a_law_k81=>k_is)
  (case l_law_k81=>k_is)
  (case c_law_k81=>k_is)
  (case k_law_k81=>k_is)
  (case z_len=>k_is)
  (case z_isinstance=>k_is)
  (case z_all=>k_is)
  (case z_range=>k_is)
  (case z_str=>k_is)
  (case z_tuple=>k_is)
  (case z_ValueError=>k_is)
  (case y_LETTERS=>k_is)
  (case y_MOST_ROWS=>k_is)
  (case y_MOST_COLUMNS=>k_is)
  (case e0=>k_is)
  (case e3=>k_is)
  (case e7=>k_is)
  (case ep=>k_is)
  (case sp=>k_is)
  (case q7=>k_exc)
  (case ga7=>k_is)
  (case gt7=>k_is)
  (case ca7=>k_is)
  (case mo7=>k_is)
  (case mb7=>k_is)
  (case cl7=>k_is)
  (case kp7=>kit_is)
  (case kv7=>kit_is)
  (case np7=>rfl)
  (case k70=>kit_is)
  (case k73=>kit_is)
  (case k77=>kit_is)
