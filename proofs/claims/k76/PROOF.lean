import PyProof.Rows.All
import Wide.All
import OpenK.AllK
import Wide.FinOn
import Lean
import PyProof.EqAt
import PyProof.EqKinds
import PyProof.TupleCall
import KE.KTryMore
import KE.KRevIter
import KE.KSortTup
import KE.KDictSum
import KE.KRevSl
import PyProof.Rows.TupDisplay
import PyProof.EnumFor
import PyProof.EnumMake
import PyProof.EnumStmt
import PyProof.DictUpdate
import PyProof.AttrMissSeq
import KE.KDictOf
import PySem.Challenge.RW_cellpatches_k76_parts
set_option Elab.async false
set_option linter.all false
set_option maxRecDepth 100000
namespace L2
open PySem PySem.Spec PyProof.Rows
abbrev Key:=Sum Int Str
def mF:Key→Value→Bool
 | .inl k,v=>Value.isInt k v
 | .inr x,v=>Value.isStrOf x v
def D9(w:World):Key→Int
 | .inl k=>hashInt k
 | .inr x=>hashStr w x
theorem bI:∀{k:Key}{v:Value},mF k v=true→(∃i t,k=Sum.inl i∧v=Value.int i t)∨(∃x t,k=Sum.inr x∧v=Value.str x t)
 | .inl i,v,h=>by
   obtain⟨t,e⟩:=Value.isInt_shape (k:=i) (v:=v) h
   exact .inl ⟨i,t,rfl,e⟩
 | .inr x,v,h=>by
   obtain⟨t,e⟩:=Value.isStrOf_shape (x:=x) (v:=v) h
   exact .inr ⟨x,t,rfl,e⟩
theorem tU(i:Int)(t:Tok):mF (.inl i) (.int i t)=true:=by simp[mF,Value.isInt]
theorem tV(x:Str)(t:Tok):mF (.inr x) (.str x t)=true:=by simp[mF,Value.isStrOf]
theorem zR(a b:Int):decide ((Sum.inl a:Key)=Sum.inl b)=(a==b):=by
 by_cases e:a=b
 ·subst e;simp
 ·have h:¬(Sum.inl a:Key)=Sum.inl b:=fun q=>e (Sum.inl.inj q)
  rw[decide_eq_false h]
  exact(beq_eq_false_iff_ne.mpr e).symm
theorem zU(a b:Str):decide ((Sum.inr a:Key)=Sum.inr b)=decide (a=b):=by
 by_cases e:a=b
 ·subst e;simp
 ·have h:¬(Sum.inr a:Key)=Sum.inr b:=fun q=>e (Sum.inr.inj q)
  rw[decide_eq_false h,decide_eq_false e]
theorem zS(a:Int)(b:Str):decide ((Sum.inl a:Key)=Sum.inr b)=false:=decide_eq_false (fun q=>nomatch q)
theorem zT(a:Str)(b:Int):decide ((Sum.inr a:Key)=Sum.inl b)=false:=decide_eq_false (fun q=>nomatch q)
def bz(prog:Program)(w:World):PySem.KeyKind prog w Key where
 is:=mF
 hash:=D9 w
 inj:=fun v a b ha hb=>by
  rcases bI ha with⟨i,t,rfl,rfl⟩ | ⟨x,t,rfl,rfl⟩
  ·rcases bI hb with⟨j,u,rfl,e⟩ | ⟨y,u,rfl,e⟩
   ·injection e with e1 _;rw[e1]
   ·exact nomatch e
  ·rcases bI hb with⟨j,u,rfl,e⟩ | ⟨y,u,rfl,e⟩
   ·exact nomatch e
   ·injection e with e1 _;rw[e1]
 byValue:=fun k v h=>by
  rcases bI h with⟨i,t,rfl,rfl⟩ | ⟨x,t,rfl,rfl⟩<;>rfl
 pyHash:=fun hv h=>by
  rcases bI hv with⟨i,t,rfl,rfl⟩ | ⟨x,t,rfl,rfl⟩
  ·exact wpAny_pyHash_int h
  ·exact wpAny_pyHash_str h
 eqBool:=fun hu hv h=>by
  rcases bI hu with⟨i,t,rfl,rfl⟩ | ⟨x,t,rfl,rfl⟩
  ·rcases bI hv with⟨j,u,rfl,rfl⟩ | ⟨y,u,rfl,rfl⟩
   ·rw[zR] at h;exact wpAny_eqBool_int h
   ·rw[zS] at h;exact SeqAt.EqAt.int_str i t y u _ _ _ _ h
  ·rcases bI hv with⟨j,u,rfl,rfl⟩ | ⟨y,u,rfl,rfl⟩
   ·rw[zT] at h;exact SeqAt.EqAt.str_int x t j u _ _ _ _ h
   ·rw[zU] at h;exact wpAny_eqBool_str h
 «strs» :=fun k x t v h=>by
  rcases bI h with⟨i,u,rfl,e⟩ | ⟨y,u,rfl,e⟩
  ·exact nomatch e
  ·injection e with e1 _
   subst e1
   cases v<;>rfl
theorem pD(prog:Program)(w:World)(i:Int)(t:Tok):(bz prog w).is (.inl i) (.int i t)=true:=tU i t
theorem pE(prog:Program)(w:World)(x:Str)(t:Tok):(bz prog w).is (.inr x) (.str x t)=true:=tV x t
inductive V where
 |non | bl (b:Bool) | int (i:Int) | str (x:Str) | byt (b:Array UInt8) | flt (b:UInt64) | ref (a:Addr) | ty (n:String)
 deriving DecidableEq
def RelV:V→Value→Prop
 | .non,u=>u=Value.none
 | .bl b,u=>u=Value.bool b
 | .int i,u=>∃t,u=Value.int i t
 | .str x,u=>∃t,u=Value.str x t
 | .byt b,u=>∃t,u=Value.bytes b t
 | .flt b,u=>∃t,u=Value.float b t
 | .ref a,u=>u=Value.ref a
 | .ty n,u=>u=Value.type n
abbrev Vals:List V→List Value→Prop:=Paired RelV
theorem Vals.length{xs:List V}{us:List Value}(r:Vals xs us):xs.length=us.length:=Paired.length r
theorem Vals.get:∀{xs:List V}{us:List Value}{i:Nat}{x:V},Vals xs us→xs[i]? =some x→∃u,us[i]? =some u∧RelV x u
 |_,_,_,_, .nil,e=>by simp at e
 |_,_,0,_, .cons r _,e=>by simp at e;subst e;exact⟨_,rfl,r⟩
 |_,_,i+1,x, .cons _ t,e=>by
  obtain⟨u,h1,h2⟩:=Vals.get (i:=i) (x:=x) t (by simpa using e)
  exact⟨u,by simpa using h1,h2⟩
theorem Vals.append:∀{xs ys:List V}{us ws:List Value},Vals xs us→Vals ys ws→Vals (xs++ys) (us++ws)
 |_,_,_,_, .nil,s=>s
 |_,_,_,_, .cons r t,s=> .cons r (Vals.append t s)
theorem Vals.take:∀{xs:List V}{us:List Value}(n:Nat),Vals xs us→Vals (xs.take n) (us.take n)
 |_,_,0,_=> .nil
 |_,_,_+1, .nil=> .nil
 |_,_,n+1, .cons r t=> .cons r (Vals.take n t)
theorem Vals.drop:∀{xs:List V}{us:List Value}(n:Nat),Vals xs us→Vals (xs.drop n) (us.drop n)
 |_,_,0,r=>r
 |_,_,_+1, .nil=> .nil
 |_,_,n+1, .cons _ t=>Vals.drop n t
def RelO:Option V→Option Value→Prop
 |some v,some u=>RelV v u
 |none,none=>True
 |_,_=>False
def KV{κ:Type}:List (κ×V)→List (κ×Value)→Prop:=Paired fun(p:κ×V) (q:κ×Value)=>p.1=q.1∧RelV p.2 q.2
def kV:Key→V
 | .inl i=> .int i
 | .inr x=> .str x
inductive HO where
 |lst (xs:List V)
 |tup (xs:List V)
 |dK (aJ:List (Key×V)) | dT (aJ:List (List Key×V))
 |set (S:Int→Bool) (n:Nat)
 |ins (C dx:Addr) (fs:List (Str×V))
 |own (x:Addr)
 |xd (fs:List (Str×V))
 |met (f x:Addr)
 |rng (lo hi:Int)
 |frz (o:Obj) (u:HO)
 |tbl (ps:Array Value)
 |ext (φ:Heap→Prop)
abbrev Hp:=Addr→Option HO
def upd(H:Hp)(a:Addr)(o:HO):Hp:=fun b=>if b=a then some o else H b
theorem aA{H:Hp}{a:Addr}{o:HO}:upd H a o a=some o:=by unfold upd;rw[if_pos rfl]
theorem ax{H:Hp}{a b:Addr}{o:HO}(h:b≠a):upd H a o b=H b:=by unfold upd;rw[if_neg h]
theorem yX{H:Hp}{a b:Addr}{o u:HO}(h:H a=some o)(h':H b=some u)(d:o≠u):a≠b:=by
 intro e;subst e;rw[h] at h';exact d (Option.some.inj h')
theorem bC{H:Hp}{a b:Addr}{o:HO}(h:H a=some o)(h':H b=none):a≠b:=by
 intro e;subst e;rw[h] at h';cases h'
section
variable(P:Program)(w:World)
def ObjOk(H:Hp)(h:Heap)(a:Addr):HO→Prop
 | .lst xs=>xs.length≤sizeLine∧∃(aG:List Value) (n:Nat),Vals xs aG∧h.get? a=some {cls:= .type "list",data:= .seq aG.toArray n}
 | .tup xs=>xs.length≤sizeLine∧∃aG:List Value,Vals xs aG∧IsTup h a aG.toArray
 | .dK aJ=>aJ.length≤sizeLine∧(a==sysModules)=false∧∃vs,KV aJ vs∧h.DictOf (bz P w) a vs
 | .dT aJ=>aJ.length≤sizeLine∧(a==sysModules)=false∧∃xs:List (List Key×Addr×Value),
    Paired (fun (p:List Key×V) (q:List Key×Addr×Value)=>p.1=q.1∧H q.2.1=some (.tup (p.1.map kV))∧RelV p.2 q.2.2) aJ xs∧
    ∃o es ep,h.get? a=some o∧o.ExactDict∧o.data= .dict es ep∧es.toList=xs.map (entryOfKey (tupleKind (bz P w)))∧(xs.map (·.1)).Nodup
 | .set S n=>h.SetOf (intKind P w) a S n
 | .ins C dx fs=>H dx=some (.own a)∧fs.length≤1000∧dx≠a∧h.get? a=some (PySem.W.instObj C dx)∧
    ∃mA,h.Ns1 dx mA∧(∀f,RelO (fs.lookup f) (mA f))∧PySem.Within mA (fs.map (·.1))
 | .own _=>∃o,h.get? a=some o
 | .xd fs=>∃mA,h.Ns1 a mA∧∀f,RelO (fs.lookup f) (mA f)
 | .rng lo hi=>∃t u v,h.get? a=some {cls:= .type "range",data:= .fields #[.int lo t, .int hi u, .int 1 v]}
 | .frz o u=>h.get? a=some o∧ObjOk H h a u
 | .tbl ps=>h.get? a=some {cls:= .none,data:= .fields ps}
 | .met f x=>h.get? a=some (PySem.W.methodObj (.ref f) (.ref x))
 | .ext φ=>φ h∧(∃o,h.get? a=some o)∧∀h1 h2:Heap,φ h1→(∀o,h1.get? a=some o→h2.get? a=some o)→φ h2
def HOk(H:Hp)(h:Heap):Prop:=∀a o,H a=some o→ObjOk P w H h a o
end
section
variable{P:Program}{w:World}{H H':Hp}{h h':Heap}{a:Addr}{o:HO}
theorem ObjOk.lt(x:ObjOk P w H h a o):a<h.objs.size:=by
 cases o with
 |lst xs=>obtain⟨_,_,_,_,e⟩:=x;exact Heap.lt_size e
 |tup xs=>obtain⟨_,_,_,p⟩:=x;exact p.lt
 |dK aJ=>obtain⟨_,_,_,_,o,_,_,e,_⟩:=x;exact Heap.lt_size e
 |dT aJ=>obtain⟨_,_,_,_,o,_,_,e,_⟩:=x;exact Heap.lt_size e
 |set S n=>obtain⟨o,_,_,_,e,_⟩:=x;exact Heap.lt_size e
 |ins C dx fs=>obtain⟨_,_,_,e,_⟩:=x;exact Heap.lt_size e
 |own y=>obtain⟨_,e⟩:=x;exact Heap.lt_size e
 |xd fs=>obtain⟨_,⟨_,_,_,e,_⟩,_⟩:=x;exact Heap.lt_size e
 |rng lo hi=>obtain⟨_,_,_,e⟩:=x;exact Heap.lt_size e
 |frz ob u=>obtain⟨e,_⟩:=x;exact Heap.lt_size e
 |tbl ps=>exact Heap.lt_size (show h.get? a=some _ from x)
 |met f y=>exact Heap.lt_size (show h.get? a=some _ from x)
 |ext φ=>obtain⟨_,⟨_,e⟩,_⟩:=x;exact Heap.lt_size e
theorem Paired.mapP{α β:Type}{F G:α→β→Prop}:∀{l₁:List α}{l₂:List β},Paired F l₁ l₂→(∀a b,F a b→G a b)→Paired G l₁ l₂
 |_,_, .nil,_=> .nil
 |_,_, .cons r t,f=> .cons (f _ _ r) (Paired.mapP t f)
theorem ObjOk.stay(x:ObjOk P w H h a o)(k:∀b u,(b=a∨H b=some (.own a))→h.get? b=some u→h'.get? b=some u)
 (ho:∀b,H b=some (.own a)→H' b=some (.own a))(ht:∀b xs,H b=some (.tup xs)→H' b=some (.tup xs)):ObjOk P w H' h' a o:=by
 induction o with
 |lst xs=>obtain⟨z,aG,n,r,e⟩:=x;exact⟨z,aG,n,r,k _ _ (.inl rfl) e⟩
 |tup xs=>obtain⟨z,aG,r,ob,e,c⟩:=x;exact⟨z,aG,r,ob,k _ _ (.inl rfl) e,c⟩
 |dK aJ=>obtain⟨z,y,vs,r,ob,es,ep,e,c⟩:=x;exact⟨z,y,vs,r,ob,es,ep,k _ _ (.inl rfl) e,c⟩
 |dT aJ=>
  obtain⟨z,y,xs,r,ob,es,ep,e,c⟩:=x
  exact⟨z,y,xs,Paired.mapP r fun p q z=>⟨z.1,ht _ _ z.2.1,z.2.2⟩,ob,es,ep,k _ _ (.inl rfl) e,c⟩
 |set S n=>obtain⟨ob,es,ep,t,e,c⟩:=x;exact⟨ob,es,ep,t,k _ _ (.inl rfl) e,c⟩
 |ins C dx fs=>
  obtain⟨d,z,ne,e,mA,⟨od,es,ep,e2,c⟩,r⟩:=x
  exact⟨ho _ d,z,ne,k _ _ (.inl rfl) e,mA,⟨od,es,ep,k _ _ (.inr d) e2,c⟩,r⟩
 |own y=>obtain⟨ob,e⟩:=x;exact⟨ob,k _ _ (.inl rfl) e⟩
 |xd fs=>obtain⟨mA,⟨od,es,ep,e,c⟩,r⟩:=x;exact⟨mA,⟨od,es,ep,k _ _ (.inl rfl) e,c⟩,r⟩
 |rng lo hi=>obtain⟨t,u,v,e⟩:=x;exact⟨t,u,v,k _ _ (.inl rfl) e⟩
 |frz ob u ih=>obtain⟨e,q⟩:=x;exact⟨k _ _ (.inl rfl) e,ih q⟩
 |tbl ps=>
  have e:h.get? a=some {cls:= .none,data:= .fields ps}:=x
  show h'.get? a=some {cls:= .none,data:= .fields ps}
  exact k a _ (.inl rfl) e
 |met f y=>
  have e:h.get? a=some (PySem.W.methodObj (.ref f) (.ref y)):=x
  show h'.get? a=some (PySem.W.methodObj (.ref f) (.ref y))
  exact k a _ (.inl rfl) e
 |ext φ=>obtain⟨p,⟨o,e⟩,st⟩:=x;exact⟨st _ _ p fun o q=>k _ _ (.inl rfl) q,⟨o,k _ _ (.inl rfl) e⟩,st⟩
theorem HOk.lt(x:HOk P w H h)(e:H a=some o):a<h.objs.size:=(x a o e).lt
theorem HOk.fresh(x:HOk P w H h)(e:h.objs.size≤a):H a=none:=by
 cases q:H a with
 |none=>rfl
 |some u=>exact absurd (Nat.lt_of_lt_of_le (x.lt q) e) (Nat.lt_irrefl _)
theorem HOk.kept(x:HOk P w H h)(k:∀b u,h.get? b=some u→h'.get? b=some u):HOk P w H h':=fun a o e=>
 (x a o e).stay (fun b u _ q=>k b u q) (fun _ q=>q) fun _ _ q=>q
theorem HOk.laid(x:HOk P w H h)(k:∀b u,h.get? b=some u→h'.get? b=some u)(hp:h.objs.size≤a)(new:ObjOk P w (upd H a o) h' a o):HOk P w (upd H a o) h':=fun b u e=>by
 have hn:=x.fresh hp
 by_cases hb:b=a
 ·subst hb;rw[aA] at e;cases e;exact new
 ·rw[ax hb] at e
  exact(x b u e).stay (fun c v _ q=>k c v q) (fun c q=>by rw[ax (bC q hn)];exact q) fun c xs q=>by rw[ax (bC q hn)];exact q
end
def Rd(H:Hp)(a:Addr)(u:HO):Prop:=H a=some u∨∃o,H a=some (.frz o u)
theorem Rd.ok{P:Program}{w:World}{H:Hp}{h:Heap}{a:Addr}{u:HO}(r:Rd H a u)(x:HOk P w H h):ObjOk P w H h a u:=by
 rcases r with r | ⟨o,r⟩
 ·exact x a u r
 ·obtain⟨_,q⟩:=x a _ r
  exact q
def A5:Option HO→Prop
 |some (.lst _)=>True
 |some (.dK _)=>True
 |some (.dT _)=>True
 |some (.set _ _)=>True
 |some (.ins _ _ _)=>True
 |some (.ext _)=>True
 |_=>False
section
variable{P:Program}{w:World}{H:Hp}{h h':Heap}{x e:Addr}{o':HO}
theorem HOk.write(ok:HOk P w H h)(mu:A5 (H x))(he:e=x∨H e=some (.own x))(k:∀b u,b≠e→h.get? b=some u→h'.get? b=some u)(AS:∃u,h'.get? e=some u)
 (new:ObjOk P w (upd H x o') h' x o'):HOk P w (upd H x o') h':=fun b u q=>by
 have BR:∀c y,H c=some (.own y)→c≠x:=fun c y r z=>by subst z;rw[r] at mu;exact mu
 have Ed:∀c xs,H c=some (.tup xs)→c≠x:=fun c xs r z=>by subst z;rw[r] at mu;exact mu
 by_cases hb:b=x
 ·subst hb;rw[aA] at q;cases q;exact new
 ·rw[ax hb] at q
  by_cases zw:b=e
  ·have q':H b=some (.own x):=by
    rcases he with z | z
    ·exact absurd (zw.trans z) hb
    ·rw[zw];exact z
   rw[q] at q';cases q'
   obtain⟨v,hv⟩:=AS
   exact⟨v,by rw[zw];exact hv⟩
  ·refine(ok b u q).stay (fun c v hc r=>k c v ?_ r) (fun c r=>by rw[ax (BR c b r)];exact r) fun c xs r=>by rw[ax (Ed c xs r)];exact r
   rcases hc with rfl | hc
   ·exact zw
   ·rintro rfl
    rcases he with z | z
    ·exact BR c b hc z
    ·rw[hc] at z;cases z;exact hb rfl
end
structure Un (fs ex:List Addr) (H H':Hp) (h h':Heap):Prop where
 keep:∀b o,h.get? b=some o→H b=none→b∉fs→b∉ex→h'.get? b=some o
 slot:∀b o,h.get? b=some o→H b=none→b∈fs→b∉ex→∃sl,h'.get? b=some {o with slots:=sl}
 free:∀b o,h.get? b=some o→H b=none→b∉ex→H' b=none
 there:∀b o,h.get? b=some o→b∉ex→∃o',h'.get? b=some o'
 tups:∀b xs,H b=some (.tup xs)→H' b=some (.tup xs)
 frzs:∀b o u,H b=some (.frz o u)→H' b=some (.frz o u)
 tbls:∀b ps,H b=some (.tbl ps)→∃more,H' b=some (.tbl (ps++more))
section
variable{fs Dj ex qK:List Addr}{H H1 H2:Hp}{h h1 h2 h':Heap}{a x e:Addr}{o:HO}
theorem Un.any(u:Un fs ex H H1 h h1){b:Addr}{ob:Obj}(q:h.get? b=some ob)(n:H b=none)(hx:b∉ex):∃sl,h1.get? b=some {ob with slots:=sl}:=by
 by_cases hb:b∈fs
 ·exact u.slot b ob q n hb hx
 ·exact⟨ob.slots,u.keep b ob q n hb hx⟩
theorem Un.trans(a:Un fs ex H H1 h h1)(b:Un fs ex H1 H2 h1 h2):Un fs ex H H2 h h2 where
 keep:=fun c ob q n hc hx=>b.keep c ob (a.keep c ob q n hc hx) (a.free c ob q n hx) hc hx
 slot:=fun c ob q n hc hx=>by
  obtain⟨sl,e1⟩:=a.slot c ob q n hc hx
  obtain⟨yw,e2⟩:=b.slot c _ e1 (a.free c ob q n hx) hc hx
  exact⟨yw,e2⟩
 free:=fun c ob q n hx=>by
  obtain⟨o',e1⟩:=a.there c ob q hx
  exact b.free c o' e1 (a.free c ob q n hx) hx
 there:=fun c ob q hx=>by
  obtain⟨o',e1⟩:=a.there c ob q hx
  exact b.there c o' e1 hx
 tups:=fun c xs q=>b.tups c xs (a.tups c xs q)
 frzs:=fun c ob xs q=>b.frzs c ob xs (a.frzs c ob xs q)
 tbls:=fun c ps q=>by
  obtain⟨m1,e1⟩:=a.tbls c ps q
  obtain⟨m2,e2⟩:=b.tbls c _ e1
  exact⟨m1++m2,by rw[e2,Array.append_assoc]⟩
theorem Un.kept(k:∀b u,h.get? b=some u→h'.get? b=some u):Un fs ex H H h h':=
 ⟨fun b ob q _ _ _=>k b ob q,fun b ob q _ _ _=>⟨ob.slots,k b ob q⟩,fun _ _ _ n _=>n,fun b ob q _=>⟨ob,k b ob q⟩,fun _ _ q=>q,fun _ _ _ q=>q,fun _ ps q=>⟨#[],by rw[q];simp⟩⟩
theorem Un.refl:Un fs ex H H h h:=Un.kept fun _ _ q=>q
theorem Un.laid(k:∀b u,h.get? b=some u→h'.get? b=some u)(hp:h.objs.size≤a)(hn:H a=none):Un fs ex H (upd H a o) h h' where
 keep:=fun b u q _ _ _=>k b u q
 slot:=fun b u q _ _ _=>⟨u.slots,k b u q⟩
 free:=fun b u q n _=>by rw[ax (Nat.ne_of_lt (Nat.lt_of_lt_of_le (Heap.lt_size q) hp))];exact n
 there:=fun b u q _=>⟨u,k b u q⟩
 tups:=fun b xs q=>by rw[ax (bC q hn)];exact q
 frzs:=fun b u xs q=>by rw[ax (bC q hn)];exact q
 tbls:=fun b ps q=>⟨#[],by rw[ax (bC q hn),q];simp⟩
theorem Un.write(mu:A5 (H x))(he:e=x∨H e=some (.own x))(k:∀b u,b≠e→h.get? b=some u→h'.get? b=some u)(AS:∃u,h'.get? e=some u):Un fs ex H (upd H x o) h h':=by
 have hx:∀b,H b=none→b≠x:=fun b n z=>by subst z;rw[n] at mu;exact mu
 have hb:∀b,H b=none→b≠e:=fun b n z=>by
  subst z
  rcases he with r | r
  ·exact hx b n r
  ·rw[n] at r;cases r
 have hm:∀b u,H b=some u→¬A5 (some u)→b≠x:=fun b u q nm z=>by subst z;rw[q] at mu;exact nm mu
 refine⟨fun b u q n _ _=>k b u (hb b n) q,fun b u q n _ _=>⟨u.slots,k b u (hb b n) q⟩,fun b u q n _=>by rw[ax (hx b n)];exact n,fun b u q _=>?_,
  fun b xs q=>by rw[ax (hm b _ q fun z=>z)];exact q,fun b u xs q=>by rw[ax (hm b _ q fun z=>z)];exact q,fun b ps q=>⟨#[],by rw[ax (hm b _ q fun z=>z),q];simp⟩⟩
 by_cases zw:b=e
 ·subst zw;exact AS
 ·exact⟨u,k b u zw q⟩
theorem Un.mono(u:Un fs ex H H1 h h1)(hs:∀b∈fs,b∈Dj)(hx:∀b∈ex,b∈qK):Un Dj qK H H1 h h1:=
 ⟨fun b ob q n hb he=>u.keep b ob q n (fun z=>hb (hs b z)) fun z=>he (hx b z),fun _ _ q n _ he=>u.any q n fun z=>he (hx _ z),fun b ob q n he=>u.free b ob q n fun z=>he (hx b z),fun b ob q he=>u.there b ob q fun z=>he (hx b z),u.tups,u.frzs,u.tbls⟩
end
def CS(h:Heap)(H:Hp):List Addr:=(List.range h.objs.size).filter fun a=>(H a).isSome
def nE(h:Heap)(H:Hp):Heap:=PySem.W.hideAll h (CS h H)
theorem tL(h:Heap)(H:Hp):(nE h H).objs.size=h.objs.size:=PySem.W.hideAll_size _ _
theorem ve{h:Heap}{H:Hp}{b:Addr}{o:Obj}(e:h.get? b=some o)(n:H b=none):(nE h H).get? b=some o:=
 PySem.W.hideAll_get _ e fun hm=>by
  have q:(H b).isSome=true:=(List.mem_filter.mp hm).2
  rw[n] at q;simp at q
theorem xO{h:Heap}{H:Hp}{b:Addr}{o:Obj}(e:(nE h H).get? b=some o):h.get? b=some o∧H b=none:=by
 have e':h.get? b=some o:=PySem.W.of_hideAll (CS h H) e
 refine⟨e',?_⟩
 cases q:H b with
 |none=>rfl
 |some x=>
  have hm:b∈CS h H:=List.mem_filter.mpr ⟨List.mem_range.mpr (Heap.lt_size e'),by simp[q]⟩
  have z:(nE h H).get? b=none:=PySem.W.hideAll_none (CS h H) hm
  rw[z] at e;cases e
def xb(g h:Heap)(L:Addr):List (Addr×Obj):=(List.range h.objs.size).filterMap fun a=>if a=L∨(g.get? a).isSome=true then none else(h.get? a).map fun o=>(a,o)
def rest(g h:Heap)(L d:Addr):List (Addr×Obj):=(xb g h L).filter fun p=>decide (p.1≠d)
structure Mod (K:W.Frag) (mg:Str→Option Value) (base:Heap):Prop where
 kin:K.In base
 glob:base.Ns mainGlobals mg
 blt:∃mb,base.Ns builtinsNs mb∧∀x:Str,x≠"__name__"→mb x=bootBuiltins x
 nolimit:base.NoLimit
structure Cx where
 prog:Program
 w:World
 K:W.Frag
 mg:Str→Option Value
 base:Heap
 A:Around
 N:List Str
 s₀:Shared
 H₀:Hp
 env:Env
 outer:List Env
 stack:List Env
 ex:List Addr
 fn:Str→Bool
 calm:Bool
 pn:List (Addr×Obj)
 xe:Value→Shared→Prop
def eB(l:List Env):List Addr:=l.filterMap (·.frame)
abbrev Cx.fs(X:Cx):List Addr:=eB X.outer
def C8(sc:Scope)(x:Str):Prop:=sc.names.lookup x=some .local∨sc.names.lookup x=some .cell∨sc.names.lookup x=some .free
def Loc(sc:Scope)(x:Str):Prop:=sc.names.lookup x=some .local∨sc.names.lookup x=some .cell
def Look(env:Env)(h:Heap)(m:Str→Option Value)(x:Str)(u:Value):Prop:=
 (env.kindOf x=some .local∧m x=some u)∨((env.kindOf x=some .cell∨env.kindOf x=some .free)∧∃c,env.cells.lookup x=some c∧h.IsCell c (some u))
structure Cx.Ok (X:Cx):Prop where
 mod:Mod X.K X.mg X.base
 kind:X.env.scope.kind= .function
 glob:X.env.globals=mainGlobals
 blt:X.env.builtins=builtinsNs
 above:X.s₀.heap.objs.size≤X.env.locals
 inj:∀x y c,X.env.cells.lookup x=some c→X.env.cells.lookup y=some c→x=y
 has:∀x,(X.env.kindOf x=some .cell∨X.env.kindOf x=some .free)→∃c,X.env.cells.lookup x=some c
 cab:∀x c,X.fn x=true→X.env.cells.lookup x=some c→X.s₀.heap.objs.size≤c
 hd:X.calm=true→X.A.handled=none
 frames:X.A.frames=some X.stack
 stk:X.stack=X.outer∨(X.stack=X.env::X.outer∧X.env.frame=some X.env.locals)
 exf:∀b∈X.ex,b≠X.env.locals∧∀x c,X.env.cells.lookup x=some c→c≠b
 bs:∀b o,X.base.get? b=some o→X.s₀.heap.get? b=some o∧X.H₀ b=none
 bsz:X.base.objs.size≤X.s₀.heap.objs.size
 noex:∀b o,X.base.get? b=some o→b∉X.ex
 exfs:∀b∈X.ex,b∉X.fs
 funs:X.s₀.heap.FunFrames X.base X.outer
 frf:∀b∈X.fs,X.H₀ b=none
structure Inv (X:Cx) (pins:List (Addr×Obj)) (σ:List (Option V)) (H:Hp) (s:Shared):Prop where
 ok:X.Ok
 os:s.os=X.s₀.os
 bare:AllBare s.gens
 base:Un X.fs X.ex X.H₀ H X.s₀.heap s.heap
 loc:∃m,s.heap.Ns X.env.locals m∧∀(i:Nat) (x:Str) (v:V),X.N[i]? =some x→σ[i]? =some (some v)→C8 X.env.scope x→∃u,RelV v u∧Look X.env s.heap m x u
 cell:∀x c,X.env.cells.lookup x=some c→∃v,s.heap.IsCell c v
 free:H X.env.locals=none
 freeC:∀x c,X.env.cells.lookup x=some c→H c=none
 pin:∀p∈X.pn++pins,s.heap.get? p.1=some p.2∧H p.1=none∧p.1≠X.env.locals∧p.1∉X.fs∧∀v,p.2.data≠ .cell v
 hok:HOk X.prog X.w H s.heap
 len:σ.length=X.N.length
section
variable{X:Cx}{pins:List (Addr×Obj)}{σ:List (Option V)}{H H':Hp}{s:Shared}{h':Heap}
theorem Cx.Ok.nofr(ok:X.Ok){b:Addr}{o:Obj}(e:X.base.get? b=some o):b∉X.fs:=fun hb=>by
 have:=(ok.funs.mem hb).1
 rw[e] at this;cases this
theorem Inv.bs(I:Inv X pins σ H s):∀b o,X.base.get? b=some o→s.heap.get? b=some o∧H b=none:=fun b o e=>
 ⟨I.base.keep b o (I.ok.bs b o e).1 (I.ok.bs b o e).2 (I.ok.nofr e) (I.ok.noex b o e),I.base.free b o (I.ok.bs b o e).1 (I.ok.bs b o e).2 (I.ok.noex b o e)⟩
theorem Inv.bk(I:Inv X pins σ H s):∀b o,X.base.get? b=some o→s.heap.get? b=some o:=fun b o e=>(I.bs b o e).1
theorem Inv.mod(I:Inv X pins σ H s):Mod X.K X.mg X.base:=I.ok.mod
theorem Inv.kIn(I:Inv X pins σ H s):X.K.In s.heap:=I.ok.mod.kin.keeps I.bk
theorem Inv.nolimit(I:Inv X pins σ H s):s.heap.NoLimit:=I.ok.mod.nolimit.keeps I.bk
theorem Inv.lt(I:Inv X pins σ H s):X.env.locals<s.heap.objs.size:=let ⟨_,hn,_⟩:=I.loc;hn.lt
theorem Inv.sz(I:Inv X pins σ H s):X.s₀.heap.objs.size≤s.heap.objs.size:=Nat.le_trans I.ok.above (Nat.le_of_lt I.lt)
theorem Inv.nofs(I:Inv X pins σ H s){a:Addr}(h:s.heap.objs.size≤a):a∉X.fs:=fun hb=>by
 obtain⟨_,o,ho,_⟩:=I.ok.funs.mem hb
 exact absurd (Nat.lt_of_lt_of_le (Heap.lt_size ho) (Nat.le_trans I.sz h)) (Nat.lt_irrefl _)
theorem Inv.cne(I:Inv X pins σ H s):∀x c,X.env.cells.lookup x=some c→c≠X.env.locals:=fun x c e z=>by
 obtain⟨v,o,ho,hd⟩:=I.cell x c e
 obtain⟨m,⟨o',es,ep,ij,xy,_⟩,_⟩:=I.loc
 rw[z,ij] at ho;cases ho;rw[xy] at hd;cases hd
theorem Inv.funs(I:Inv X pins σ H s):s.heap.FunFrames X.base X.outer:=by
 have all:∀(l:List Env),(∀b∈eB l,b∈X.fs)→X.s₀.heap.FunFrames X.base l→s.heap.FunFrames X.base l:=by
  intro l
  induction l with
  |nil=>intro _ _;trivial
  |cons env r ih=>
   intro hs hl
   obtain⟨hk,⟨L,o,hf,hn,ho,hd⟩,hr⟩:=hl
   have hL:L∈X.fs:=hs L (by unfold eB;rw[List.filterMap_cons,hf];exact List.mem_cons_self)
   obtain⟨sl,e⟩:=I.base.slot L o ho (I.ok.frf L hL) hL fun z=>I.ok.exfs L z hL
   exact⟨hk,⟨L,_,hf,hn,e,hd⟩,ih (fun b hb=>hs b (by unfold eB;rw[List.filterMap_cons,hf];exact List.mem_cons_of_mem _ hb)) hr⟩
 exact all X.outer (fun _ hb=>hb) I.ok.funs
theorem Inv.stack(I:Inv X pins σ H s):s.heap.FunFrames X.base X.stack:=by
 rcases I.ok.stk with e | ⟨e,hf⟩
 ·rw[e];exact I.funs
 ·rw[e]
  obtain⟨m,hn,_⟩:=I.loc
  refine .cons (by rw[I.ok.kind];decide) hf hn ?_ I.funs
  exact Heap.get?_none_of_le (Nat.le_trans I.ok.bsz I.ok.above)
theorem Inv.stkSub(I:Inv X pins σ H s):∀b∈eB X.stack,b∈X.env.locals::X.fs:=fun b hb=>by
 rcases I.ok.stk with e | ⟨e,hf⟩
 ·rw[e] at hb;exact List.mem_cons_of_mem _ hb
 ·rw[e] at hb
  unfold eB at hb
  rw[List.filterMap_cons,hf] at hb
  exact hb
theorem Inv.stkFree(I:Inv X pins σ H s):∀b∈eB X.stack,H b=none:=fun b hb=>by
 rcases List.mem_cons.mp (I.stkSub b hb) with e | hb
 ·rw[e];exact I.free
 ·obtain⟨_,o,ho,_⟩:=I.ok.funs.mem hb
  exact I.base.free b o ho (I.ok.frf b hb) fun z=>I.ok.exfs b z hb
theorem Inv.step{g':Array GenState}{t':Nat}{d':Drawn}{ch:List Addr}(I:Inv X pins σ H s)
 (w9:∀b∈ch,(b∈X.ex∨X.s₀.heap.objs.size≤b)∧b≠X.env.locals∧(∀x c,X.env.cells.lookup x=some c→c≠b)∧∀p∈X.pn++pins,p.1≠b)
 (keep:∀b o,b≠X.env.locals→b∉X.fs→b∉ch→s.heap.get? b=some o→H b=none→h'.get? b=some o)
 (slot:∀b o,b≠X.env.locals→b∈X.fs→b∉ch→s.heap.get? b=some o→H b=none→∃sl,h'.get? b=some {o with slots:=sl})(free:∀b o,b∉ch→s.heap.get? b=some o→H b=none→H' b=none)
 (there:∀b o,b∉ch→s.heap.get? b=some o→∃o',h'.get? b=some o')
 (tups:∀b xs,H b=some (.tup xs)→H' b=some (.tup xs))(frzs:∀b o u,H b=some (.frz o u)→H' b=some (.frz o u))(tbls:∀b ps,H b=some (.tbl ps)→∃more,H' b=some (.tbl (ps++more)))
 (ns:∀m,s.heap.Ns X.env.locals m→h'.Ns X.env.locals m)(hok:HOk X.prog X.w H' h')(hg:AllBare g'):
 Inv X pins σ H' {s with heap:=h',gens:=g',drawn:=d',toks:=t'}:=by
 have AX:∀b o,X.s₀.heap.get? b=some o→b≠X.env.locals:=fun b o e=>Nat.ne_of_lt (Nat.lt_of_lt_of_le (Heap.lt_size e) I.ok.above)
 have CM:∀b o,X.s₀.heap.get? b=some o→b∉X.ex→b∉ch:=fun b o e hx hb=>by
  rcases(w9 b hb).1 with z | z
  ·exact hx z
  ·exact absurd (Nat.lt_of_lt_of_le (Heap.lt_size e) z) (Nat.lt_irrefl _)
 have cellK:∀x c,X.env.cells.lookup x=some c→∀v,s.heap.IsCell c v→h'.IsCell c v:=fun x c e v ⟨o,ho,hd⟩=>by
  have BM:c∉ch:=fun z=>(w9 c z).2.2.1 x c e rfl
  by_cases hc:c∈X.fs
  ·obtain⟨sl,q⟩:=slot c o (I.cne x c e) hc BM ho (I.freeC x c e)
   exact⟨_,q,hd⟩
  ·exact⟨o,keep c o (I.cne x c e) hc BM ho (I.freeC x c e),hd⟩
 refine⟨I.ok,I.os,hg,⟨fun b o e n hb hx=>?_,fun b o e n hb hx=>?_,fun b o e n hx=>?_,fun b o e hx=>?_,fun b xs e=>tups b xs (I.base.tups b xs e),fun b o xs e=>frzs b o xs (I.base.frzs b o xs e),fun b ps e=>?_⟩,?_,fun x c e=>?_,?_,fun x c e=>?_,fun p hp=>?_,hok,I.len⟩
 ·exact keep b o (AX b o e) hb (CM b o e hx) (I.base.keep b o e n hb hx) (I.base.free b o e n hx)
 ·obtain⟨sl,e1⟩:=I.base.slot b o e n hb hx
  obtain⟨yw,e2⟩:=slot b _ (AX b o e) hb (CM b o e hx) e1 (I.base.free b o e n hx)
  exact⟨yw,e2⟩
 ·obtain⟨o',e1⟩:=I.base.there b o e hx
  exact free b o' (CM b o e hx) e1 (I.base.free b o e n hx)
 ·obtain⟨o',e1⟩:=I.base.there b o e hx
  exact there b o' (CM b o e hx) e1
 ·obtain⟨m1,e1⟩:=I.base.tbls b ps e
  obtain⟨m2,e2⟩:=tbls b _ e1
  exact⟨m1++m2,by rw[e2,Array.append_assoc]⟩
 ·obtain⟨m,hn,hl⟩:=I.loc
  refine⟨m,ns m hn,fun i x v e1 e2 e3=>?_⟩
  obtain⟨u,r,l⟩:=hl i x v e1 e2 e3
  refine⟨u,r,?_⟩
  rcases l with l | ⟨k,c,e,z⟩
  ·exact .inl l
  ·exact .inr ⟨k,c,e,cellK x c e _ z⟩
 ·obtain⟨v,z⟩:=I.cell x c e
  exact⟨v,cellK x c e v z⟩
 ·obtain⟨m,⟨o,_,_,ho,_⟩,_⟩:=I.loc
  exact free _ o (fun z=>(w9 _ z).2.1 rfl) ho I.free
 ·obtain⟨v,o,ho,hd⟩:=I.cell x c e
  exact free c o (fun z=>(w9 c z).2.2.1 x c e rfl) ho (I.freeC x c e)
 ·obtain⟨e,n,ne,nf,d⟩:=I.pin p hp
  have BM:p.1∉ch:=fun z=>(w9 p.1 z).2.2.2 p hp rfl
  exact⟨keep p.1 p.2 ne nf BM e n,free p.1 p.2 BM e n,ne,nf,d⟩
theorem Inv.un{t':Nat}(I:Inv X pins σ H s)(u:Un X.fs [] H H' s.heap h')(hok:HOk X.prog X.w H' h'):Inv X pins σ H' {s with heap:=h',toks:=t'}:=by
 obtain⟨m,⟨o,es,ep,ho,r⟩,_⟩:=id I.loc
 obtain⟨sl,hL⟩:=u.any ho I.free (by simp)
 exact I.step (g':=s.gens) (d':=s.drawn) (ch:=[]) (fun _ z=>nomatch z) (fun b o _ hb _ e n=>u.keep b o e n hb (by simp)) (fun b o _ hb _ e n=>u.slot b o e n hb (by simp)) (fun b o _ e n=>u.free b o e n (by simp)) (fun b o _ e=>u.there b o e (by simp)) u.tups u.frzs u.tbls (fun m' hm=>by
  obtain⟨o',Di,Dh,ij,r'⟩:=hm
  rw[ho] at ij;cases ij
  exact⟨_,Di,Dh,hL,r'⟩) hok I.bare
theorem Inv.call{g':Array GenState}{t':Nat}{d':Drawn}{ch:List Addr}(I:Inv X pins σ H s)(u:Un (eB X.stack) ch H H' s.heap h')(hok:HOk X.prog X.w H' h')(hg:AllBare g')
 (w9:∀b∈ch,(b∈X.ex∨X.s₀.heap.objs.size≤b)∧b≠X.env.locals∧(∀x c,X.env.cells.lookup x=some c→c≠b)∧∀p∈X.pn++pins,p.1≠b):
 Inv X pins σ H' {s with heap:=h',gens:=g',drawn:=d',toks:=t'}:=by
 obtain⟨m,⟨o,es,ep,ho,r⟩,_⟩:=id I.loc
 obtain⟨sl,hL⟩:=u.any ho I.free fun z=>(w9 _ z).2.1 rfl
 exact I.step (ch:=ch) w9 (fun b o hL hb hc e n=>u.keep b o e n (fun z=>(List.mem_cons.mp (I.stkSub b z)).elim hL hb) hc) (fun b o _ _ hc e n=>u.any e n hc) (fun b o hc e n=>u.free b o e n hc) (fun b o hc e=>u.there b o e hc) u.tups u.frzs u.tbls (fun m' hm=>by
  obtain⟨o',Di,Dh,ij,r'⟩:=hm
  rw[ho] at ij;cases ij
  exact⟨_,Di,Dh,hL,r'⟩) hok hg
theorem Inv.turned{t':Nat}{it:Addr}(I:Inv X pins σ H s)(k:∀b o,b≠it→s.heap.get? b=some o→h'.get? b=some o)(hn:H it=none)(hL:it≠X.env.locals)
 (h1:it∈X.ex∨X.s₀.heap.objs.size≤it)(h2:∀x c,X.env.cells.lookup x=some c→c≠it)(h3:∀p∈X.pn++pins,p.1≠it):Inv X pins σ H {s with heap:=h',toks:=t'}:=by
 have Fo:∀b u,H b=some u→b≠it:=fun b u e z=>by rw[z,hn] at e;cases e
 refine I.step (g':=s.gens) (d':=s.drawn) (ch:=[it]) (fun b hb=>?_) (fun b o _ _ hc e _=>k b o (fun z=>hc (by simp[z])) e) (fun b o _ _ hc e _=>⟨o.slots,k b o (fun z=>hc (by simp[z])) e⟩) (fun _ _ _ _ n=>n)
  (fun b o hc e=>⟨o,k b o (fun z=>hc (by simp[z])) e⟩) (fun _ _ e=>e) (fun _ _ _ e=>e) (fun b ps e=>⟨#[],by rw[e];simp⟩) (fun m hm=>?_) (fun b u e=>?_) I.bare
 ·have e:b=it:=by simpa using hb
  subst e
  exact⟨h1,hL,h2,h3⟩
 ·obtain⟨o,es,ep,ho,r⟩:=hm
  exact⟨o,es,ep,k _ o (Ne.symm hL) ho,r⟩
 ·refine(I.hok b u e).stay (fun c v hc q=>k c v ?_ q) (fun _ q=>q) fun _ _ q=>q
  rcases hc with z | z
  ·rw[z];exact Fo b u e
  ·exact Fo c _ z
theorem Inv.tok(I:Inv X pins σ H s)(t:Nat):Inv X pins σ H {s with toks:=t}:=I.un (h':=s.heap) (t':=t) Un.refl I.hok
theorem Inv.kept{t':Nat}(I:Inv X pins σ H s)(k:∀b u,s.heap.get? b=some u→h'.get? b=some u):Inv X pins σ H {s with heap:=h',toks:=t'}:=I.un (Un.kept k) (I.hok.kept k)
theorem Inv.laid{a:Addr}{o:HO}{t':Nat}(I:Inv X pins σ H s)(k:∀b u,s.heap.get? b=some u→h'.get? b=some u)(hp:s.heap.objs.size≤a)(new:ObjOk X.prog X.w (upd H a o) h' a o):
 Inv X pins σ (upd H a o) {s with heap:=h',toks:=t'}:=I.un (Un.laid k hp (I.hok.fresh hp)) (I.hok.laid k hp new)
theorem Inv.write{x e:Addr}{o:HO}{t':Nat}(I:Inv X pins σ H s)(mu:A5 (H x))(he:e=x∨H e=some (.own x))(k:∀b u,b≠e→s.heap.get? b=some u→h'.get? b=some u)(AS:∃u,h'.get? e=some u)
 (new:ObjOk X.prog X.w (upd H x o) h' x o):Inv X pins σ (upd H x o) {s with heap:=h',toks:=t'}:=I.un (Un.write mu he k AS) (I.hok.write mu he k AS new)
theorem Inv.pins_of{pX:List (Addr×Obj)}(I:Inv X pins σ H s)(h:∀p∈pX,s.heap.get? p.1=some p.2∧H p.1=none∧p.1≠X.env.locals∧p.1∉X.fs∧∀v,p.2.data≠ .cell v):Inv X pX σ H s:=
 ⟨I.ok,I.os,I.bare,I.base,I.loc,I.cell,I.free,I.freeC,fun p hp=>(List.mem_append.mp hp).elim (fun z=>I.pin p (List.mem_append_left _ z)) (h p),I.hok,I.len⟩
theorem pF{N:List Str}(hN:N.Nodup){i j:Nat}{x:Str}(a:N[i]? =some x)(b:N[j]? =some x):i=j:=by
 obtain⟨h1,e1⟩:=List.getElem?_eq_some_iff.mp a
 obtain⟨h2,e2⟩:=List.getElem?_eq_some_iff.mp b
 exact(List.getElem_inj hN).mp (e1.trans e2.symm)
theorem jl{M:Model}{A:Around}{E:Value→Shared→Prop}{i:Nat}{x:Str}{v:V}{u:Value}{Q:Unit→Shared→Prop}(I:Inv X pins σ H s)(hN:X.N.Nodup)(hi:X.N[i]? =some x)(hx:Loc X.env.scope x)(r:RelV v u)
 (h:∀s',Inv X pins (σ.set i (some v)) H s'→(∃a,Heap.SameBut a s.heap s'.heap∧(a=X.env.locals∨X.env.cells.lookup x=some a))→Q () s')(hf:X.fn x=true∨X.env.scope.names.lookup x=some .local:=by first | exact .inl rfl | exact .inr rfl | assumption):wpAny M A (storeName X.env x u) Q E s:=by
 obtain⟨m,hn,hl⟩:=id I.loc
 have Dw:(X.env.scope.kind== .class||(X.env.scope.kind== .module&&X.env.locals !=X.env.globals))=false:=by rw[I.ok.kind];rfl
 have E6:i<σ.length:=by rw[I.len];exact(List.getElem?_eq_some_iff.mp hi).1
 have cne:=I.cne
 have tracked:∀{a:Addr}{h':Heap},(∃o,s.heap.get? a=some o∧H a=none)→Heap.SameBut a s.heap h'→HOk X.prog X.w H h':=fun {a h'} ha hs b ob e=>by
  obtain⟨_,_,yR⟩:=ha
  refine(I.hok b ob e).stay (fun c w' hc q=>(hs.2 c ?_).trans q) (fun _ q=>q) fun _ _ q=>q
  rintro rfl
  rcases hc with rfl | hc
  ·rw[yR] at e;cases e
  ·rw[yR] at hc;cases hc
 rcases hx with hk | hk
 ·refine wpAny_storeName_local hk hn (fun h' DN hs=>?_) Dw
  obtain⟨oL,_,_,Gy,_⟩:=id hn
  refine h _ ⟨I.ok,I.os,I.bare,⟨fun b o e n hb hx=>?_,fun b o e n hb hx=>?_,I.base.free,fun b o e hx=>?_,I.base.tups,I.base.frzs,I.base.tbls⟩,⟨_,DN,fun j y v' e1 e2 e3=>?_⟩,fun y c e=>?_,I.free,I.freeC,fun p hp=>?_,tracked ⟨oL,Gy,I.free⟩ hs,by simpa using I.len⟩ ⟨_,hs, .inl rfl⟩
  ·exact(hs.2 b (Nat.ne_of_lt (Nat.lt_of_lt_of_le (Heap.lt_size e) I.ok.above))).trans (I.base.keep b o e n hb hx)
  ·obtain⟨sl,e1⟩:=I.base.slot b o e n hb hx
   exact⟨sl,(hs.2 b (Nat.ne_of_lt (Nat.lt_of_lt_of_le (Heap.lt_size e) I.ok.above))).trans e1⟩
  ·obtain⟨o',e1⟩:=I.base.there b o e hx
   exact⟨o',(hs.2 b (Nat.ne_of_lt (Nat.lt_of_lt_of_le (Heap.lt_size e) I.ok.above))).trans e1⟩
  ·by_cases hj:j=i
   ·subst hj
    rw[hi] at e1;cases e1
    rw[List.getElem?_set_self E6] at e2
    cases e2
    exact⟨u,r, .inl ⟨hk,by simp⟩⟩
   ·rw[List.getElem?_set_ne (Ne.symm hj)] at e2
    obtain⟨u',r',q⟩:=hl j y v' e1 e2 e3
    refine⟨u',r',?_⟩
    rcases q with⟨k,e⟩ | ⟨k,c,e,z⟩
    ·refine .inl ⟨k,?_⟩
     have:y≠x:=fun e=>hj (pF hN e1 (e▸hi))
     simp[this,e]
    ·exact .inr ⟨k,c,e,z.sameBut hs (cne y c e)⟩
  ·obtain⟨w',z⟩:=I.cell y c e
   exact⟨w',z.sameBut hs (cne y c e)⟩
  ·obtain⟨e,n,ne,nf,d⟩:=I.pin p hp
   exact⟨(hs.2 p.1 ne).trans e,n,ne,nf,d⟩
 ·have DB:X.fn x=true:=by
   rcases hf with z | z
   ·exact z
   ·rw[z] at hk;cases hk
  obtain⟨c,hc⟩:=I.ok.has x (.inl hk)
  obtain⟨w',z⟩:=I.cell x c hc
  refine wpAny_storeName_cell I.ok.kind hk hc z (fun h' yN hs=>?_)
  obtain⟨oc,E_,DP⟩:=id z
  refine h {s with heap:=h'} ⟨I.ok,I.os,I.bare,⟨fun b o e n hb hx=>?_,fun b o e n hb hx=>?_,I.base.free,fun b o e hx=>?_,I.base.tups,I.base.frzs,I.base.tbls⟩,⟨m,hn.sameBut hs (Ne.symm (cne x c hc)),fun j y v' e1 e2 e3=>?_⟩,fun y c' e=>?_,I.free,I.freeC,fun p hp=>?_,tracked ⟨oc,E_,I.freeC x c hc⟩ hs,by simpa using I.len⟩ ⟨c,hs, .inr hc⟩
  ·exact(hs.2 b (Nat.ne_of_lt (Nat.lt_of_lt_of_le (Heap.lt_size e) (I.ok.cab x c DB hc)))).trans (I.base.keep b o e n hb hx)
  ·obtain⟨sl,e1⟩:=I.base.slot b o e n hb hx
   exact⟨sl,(hs.2 b (Nat.ne_of_lt (Nat.lt_of_lt_of_le (Heap.lt_size e) (I.ok.cab x c DB hc)))).trans e1⟩
  ·obtain⟨o',e1⟩:=I.base.there b o e hx
   exact⟨o',(hs.2 b (Nat.ne_of_lt (Nat.lt_of_lt_of_le (Heap.lt_size e) (I.ok.cab x c DB hc)))).trans e1⟩
  ·by_cases hj:j=i
   ·subst hj
    rw[hi] at e1;cases e1
    rw[List.getElem?_set_self E6] at e2
    cases e2
    exact⟨u,r, .inr ⟨.inl hk,c,hc,yN⟩⟩
   ·rw[List.getElem?_set_ne (Ne.symm hj)] at e2
    obtain⟨u',r',q⟩:=hl j y v' e1 e2 e3
    refine⟨u',r',?_⟩
    rcases q with q | ⟨k,c',e,z'⟩
    ·exact .inl q
    ·refine .inr ⟨k,c',e,z'.sameBut hs ?_⟩
     rintro rfl
     exact hj (pF hN e1 (I.ok.inj _ _ _ e hc▸hi))
  ·by_cases CF:c'=c
   ·subst CF;exact⟨_,yN⟩
   ·obtain⟨w2,z2⟩:=I.cell y c' e
    exact⟨w2,z2.sameBut hs CF⟩
  ·obtain⟨e,n,ne,nf,d⟩:=I.pin p hp
   refine⟨(hs.2 p.1 ?_).trans e,n,ne,nf,d⟩
   intro q
   rw[q,E_] at e
   have q':oc=p.2:=Option.some.inj e
   exact d w' (by rw[←q'];exact DP)
theorem qe{M:Model}{A:Around}{E:Value→Shared→Prop}{i:Nat}{x:Str}{v:V}{u:Value}{Q:Unit→Shared→Prop}(I:Inv X pins σ H s)(hN:X.N.Nodup)(hi:X.N[i]? =some x)(hx:Loc X.env.scope x)(r:RelV v u)
 (h:∀s',Inv X pins (σ.set i (some v)) H s'→Q () s')(hf:X.fn x=true∨X.env.scope.names.lookup x=some .local:=by first | exact .inl rfl | exact .inr rfl | assumption):wpAny M A (storeName X.env x u) Q E s:=
 jl I hN hi hx r (fun s' I' _=>h s' I') hf
theorem Inv.call'{s':Shared}{ch:List Addr}(I:Inv X pins σ H s)(ho:s'.os=s.os)(u:Un (eB X.stack) ch H H' s.heap s'.heap)(hok:HOk X.prog X.w H' s'.heap)(hg:AllBare s'.gens)
 (w9:∀b∈ch,(b∈X.ex∨X.s₀.heap.objs.size≤b)∧b≠X.env.locals∧(∀x c,X.env.cells.lookup x=some c→c≠b)∧∀p∈X.pn++pins,p.1≠b):Inv X pins σ H' s':=by
 obtain⟨h',g',d',t',o'⟩:=s'
 have e:o'=s.os:=ho
 subst e
 exact I.call (g':=g') (t':=t') (d':=d') u hok hg w9
end
abbrev XK:=Value→Option Addr→Hp→Prop
abbrev St:=List (Option V)
abbrev VK:=V→Hp→Prop
abbrev TE:=St→Hp→VK→Prop
abbrev TT:=St→Hp→(Bool→Hp→Prop)→Prop
abbrev TA:=St→Hp→(List V→Hp→Prop)→Prop
structure Ends where
 nx:St→Hp→Prop
 rt:VK
 bk:St→Hp→Prop:=fun _ _=>False
 ct:St→Hp→Prop:=fun _ _=>False
abbrev TS:=Ends→St→Hp→Prop
def EP(X:Cx)(pins:List (Addr×Obj))(σ:St)(Q:VK)(u:Value)(s':Shared):Prop:=∃v H',Inv X pins σ H' s'∧RelV v u∧Q v H'
def TP(X:Cx)(pins:List (Addr×Obj))(σ:St)(Q:Bool→Hp→Prop)(b:Bool)(s':Shared):Prop:=∃H',Inv X pins σ H' s'∧Q b H'
def AP(X:Cx)(pins:List (Addr×Obj))(σ:St)(Q:List V→Hp→Prop)(us:List Value)(s':Shared):Prop:=∃vs H',Inv X pins σ H' s'∧Vals vs us∧Q vs H'
def SP(X:Cx)(pins:List (Addr×Obj))(D:Ends)(f:Flow)(s':Shared):Prop:=
 match f with
 | .next=>∃σ' H',Inv X pins σ' H' s'∧D.nx σ' H'
 | .brk=>∃σ' H',Inv X pins σ' H' s'∧D.bk σ' H'
 | .cont=>∃σ' H',Inv X pins σ' H' s'∧D.ct σ' H'
 | .ret u=>∃v σ' H',Inv X pins σ' H' s'∧RelV v u∧D.rt v H'
def PE(X:Cx)(e:Expr)(t:TE):Prop:=
 ∀(pins:List (Addr×Obj)) (s:Shared) (σ:St) (H:Hp) (Q:VK),Inv X pins σ H s→t σ H Q→wpAny (model X.prog X.w) X.A (eval e X.env) (EP X pins σ Q) X.xe s
def PT(X:Cx)(e:Expr)(t:TT):Prop:=
 ∀(pins:List (Addr×Obj)) (s:Shared) (σ:St) (H:Hp) (Q:Bool→Hp→Prop),Inv X pins σ H s→t σ H Q→wpAny (model X.prog X.w) X.A (isTrue e X.env (eval e X.env)) (TP X pins σ Q) X.xe s
def PW(X:Cx)(e:Expr)(t:TT):Prop:=
 ∀(whole:Sem Value) (pins:List (Addr×Obj)) (s:Shared) (σ:St) (H:Hp) (Q:Bool→Hp→Prop),Inv X pins σ H s→t σ H Q→wpAny (model X.prog X.w) X.A (isTrue e X.env whole) (TP X pins σ Q) X.xe s
theorem PW.pt{X:Cx}{e:Expr}{t:TT}(h:PW X e t):PT X e t:=h _
def PA(X:Cx)(es:List Expr)(t:TA):Prop:=
 ∀(pos:Pos) (pins:List (Addr×Obj)) (s:Shared) (σ:St) (H:Hp) (Q:List V→Hp→Prop),Inv X pins σ H s→t σ H Q→wpAny (model X.prog X.w) X.A (spliced (backTo pos (starEach es X.env))) (AP X pins σ Q) X.xe s
def PS(X:Cx)(st:Stmt)(t:TS):Prop:=
 ∀(pins:List (Addr×Obj)) (s:Shared) (σ:St) (H:Hp) (D:Ends),Inv X pins σ H s→t D σ H→wpAny (model X.prog X.w) X.A (exec st X.env) (SP X pins D) X.xe s
def PSs(X:Cx)(st:List Stmt)(t:TS):Prop:=
 ∀(pins:List (Addr×Obj)) (s:Shared) (σ:St) (H:Hp) (D:Ends),Inv X pins σ H s→t D σ H→wpAny (model X.prog X.w) X.A (execs st X.env) (SP X pins D) X.xe s
theorem bV{α:Type}{t:Sem α}{Q Q':α→Shared→Prop}{M:Model}{A:Around}{E:Value→Shared→Prop}{s:Shared}(h:wpAny M A t Q E s)(hQ:∀a s,Q a s→Q' a s):wpAny M A t Q' E s:=wpAny_mono h hQ fun _ _ x=>x
section
variable{X:Cx}
theorem bin{a b:Expr}{ta tb:TE}(ha:PE X a ta)(hb:PE X b tb){pins:List (Addr×Obj)}{s:Shared}{σ:St}{H:Hp}{R:V→V→Hp→Prop}(I:Inv X pins σ H s)(h:ta σ H fun x H1=>tb σ H1 fun y H2=>R x y H2)
 {α:Type}{Q:α→Shared→Prop}{f:Value→Value→Sem α}
 (hf:∀v u s2 x y H2,Inv X pins σ H2 s2→RelV x v→RelV y u→R x y H2→wpAny (model X.prog X.w) X.A (f v u) Q X.xe s2):
 wpAny (model X.prog X.w) X.A (eval a X.env) (fun v s₁=>wpAny (model X.prog X.w) X.A (eval b X.env) (fun u s₂=>wpAny (model X.prog X.w) X.A (f v u) Q X.xe s₂) X.xe s₁) X.xe s:=by
 refine bV (ha pins s σ H _ I h) fun v s1 ⟨x,H1,I1,r1,q1⟩=>?_
 refine bV (hb pins s1 σ H1 _ I1 q1) fun u s2 ⟨y,H2,I2,r2,q2⟩=>?_
 exact hf v u s2 x y H2 I2 r1 r2 q2
def md(i:Nat):TE:=fun σ H Q=>∃v,σ[i]? =some (some v)∧Q v H
def tC(v:V):TE:=fun _ H Q=>Q v H
theorem An{i:Nat}{x:Str}{pos:Pos}(hN:X.N[i]? =some x)(hv:C8 X.env.scope x)(hd:(x==("__debug__":Str))=false:=by decide)(qr:(x==("__classdict__":Str))=false:=by decide):PE X (.Name x pos) (md i):=by
 intro pins s σ H Q I h
 obtain⟨v,e,h⟩:=h
 obtain⟨m,hn,hl⟩:=I.loc
 obtain⟨u,r,l⟩:=hl i x v hN e hv
 have fin:EP X pins σ Q u s:=⟨v,H,I,r,h⟩
 rcases l with⟨hk,hm⟩ | ⟨hk,c,hc,yP⟩
 ·exact wpAny_Name (wpAny_loadName_local I.ok.kind hk hn hm fin) hd
 ·rcases hk with hk | hk
  ·exact wpAny_Name (wpAny_loadName_cell I.ok.kind hk hc yP fin) hd
  ·exact wpAny_Name (wpAny_loadName_free I.ok.kind hk hc yP fin qr) hd
theorem Ah{i j pos}:PE X (.Constant (.int i) j pos) (tC (.int i)):=fun _ _ _ H _ I h=>wpAny_Constant_int ⟨.int i,H,I.tok _,⟨_,rfl⟩,h⟩
theorem BY{b j pos}:PE X (.Constant (.bool b) j pos) (tC (.bl b)):=fun _ _ _ H _ I h=>Constant_bool ⟨.bl b,H,I,rfl,h⟩
theorem Ai{j pos}:PE X (.Constant .none j pos) (tC .non):=fun _ _ _ H _ I h=>Constant_none ⟨.non,H,I,rfl,h⟩
theorem Al{x j pos}:PE X (.Constant (.str x) j pos) (tC (.str x)):=fun _ _ _ H _ I h=>Calls.Constant_str ⟨.str x,H,I.tok _,⟨_,rfl⟩,h⟩
def Gl(X:Cx)(x:Str):Prop:=X.env.kindOf x=some .globalImplicit
theorem iq{E:Value→Shared→Prop}{pins:List (Addr×Obj)}{s:Shared}{σ:St}{H:Hp}{x:Str}{u:Value}{pos:Pos}{Q:Value→Shared→Prop}(I:Inv X pins σ H s)(hg:Gl X x)(hm:X.mg x=some u)(h:Q u s)
 (hd:(x==("__debug__":Str))=false:=by decide):wpAny (model X.prog X.w) X.A (eval (.Name x pos) X.env) Q E s:=
 Calls.Name_function_global I.ok.kind hg (Calls.loadGlobal_global (by rw[I.ok.glob];exact I.mod.glob.keeps I.bk) hm h) hd
theorem nL{E:Value→Shared→Prop}{pins:List (Addr×Obj)}{s:Shared}{σ:St}{H:Hp}{x:Str}{u:Value}{pos:Pos}{Q:Value→Shared→Prop}(I:Inv X pins σ H s)(hg:Gl X x)(hm:X.mg x=none)(hv:bootBuiltins x=some u)(h:Q u s)
 (hn:x≠"__name__":=by decide)(hd:(x==("__debug__":Str))=false:=by decide):wpAny (model X.prog X.w) X.A (eval (.Name x pos) X.env) Q E s:=by
 obtain⟨mb,h1,h2⟩:=I.mod.blt
 exact Calls.Name_function_global I.ok.kind hg (Calls.loadGlobal_builtin (by rw[I.ok.glob];exact I.mod.glob.keeps I.bk) hm (by rw[I.ok.blt];exact h1.keeps I.bk) ((h2 x hn).trans hv) h) hd
theorem yg{x:Str}{v:V}{u:Value}{pos:Pos}(hg:Gl X x)(hm:X.mg x=some u)(r:RelV v u)(hd:(x==("__debug__":Str))=false:=by decide):PE X (.Name x pos) (tC v):=
 fun _ _ _ H _ I h=>iq I hg hm ⟨v,H,I,r,h⟩ hd
theorem yd{x:Str}{v:V}{u:Value}{pos:Pos}(hg:Gl X x)(hm:X.mg x=none)(hv:bootBuiltins x=some u)(r:RelV v u)(hn:x≠"__name__":=by decide)(hd:(x==("__debug__":Str))=false:=by decide):PE X (.Name x pos) (tC v):=
 fun _ _ _ H _ I h=>nL I hg hm hv ⟨v,H,I,r,h⟩ hn hd
variable{a b:Expr}{ta tb:TE}{pos:Pos}
def PC(X:Cx)(op:CmpOp)(a b:Expr)(t:TE):Prop:=
 ∀(pins:List (Addr×Obj)) (s:Shared) (σ:St) (H:Hp) (Q:VK),Inv X pins σ H s→t σ H Q→
  wpAny (model X.prog X.w) X.A (eval a X.env) (fun v s₁=>wpAny (model X.prog X.w) X.A (eval b X.env) (fun u s₂=>wpAny (model X.prog X.w) X.A (compareOp op v u) (EP X pins σ Q) X.xe s₂) X.xe s₁) X.xe s
theorem vC(b:Expr){op:CmpOp}(h:op≠ .In)(h2:op≠ .NotIn):behindInMarks op b=false:=by
 have e1:(op==CmpOp.In)=false:=by cases op<;>first | rfl | exact absurd rfl h
 have e2:(op==CmpOp.NotIn)=false:=by cases op<;>first | rfl | exact absurd rfl h2
 cases b<;>simp[behindInMarks,e1,e2]
theorem Ag{op:CmpOp}{t:TE}(h:PC X op a b t)(h1:behindInMarks op b=false:=by first | exact vC _ (by decide) (by decide) | rfl):PE X (.Compare a [op] [b] pos) t:=fun pins s σ H Q I hw=>wpAny_Compare1 (h pins s σ H Q I hw) h1
variable{tA da:TT}{rest:List Expr}
def G5(t u:TT):TT:=fun σ H Q=>t σ H fun c H1=>if c=true then Q true H1 else u σ H1 Q
def EC(t:TT):TT:=fun σ H Q=>t σ H fun c H1=>Q (!c) H1
theorem Ax(ha:PT X a tA):PW X (.BoolOp .Or [a] pos) tA:=by
 intro wh pins s σ H Q I h
 refine isTrue_or (bV (ha pins s σ H Q I h) fun c s1 e=>?_)
 cases c with
 |false=>exact isTrue_or_nil e
 |true=>exact e
theorem B3(ha:PT X a tA)(hb:PW X (.BoolOp .Or (b::rest) pos) da):PW X (.BoolOp .Or (a::b::rest) pos) (G5 tA da):=by
 intro wh pins s σ H Q I h
 refine isTrue_or (bV (ha pins s σ H _ I h) fun c s1 ⟨H1,I1,q1⟩=>?_)
 cases c with
 |true=>exact⟨H1,I1,q1⟩
 |false=>exact hb wh pins s1 σ H1 Q I1 q1
theorem Av(ha:PT X a tA):PT X (.UnaryOp .Not a pos) (EC tA):=by
 intro pins s σ H Q I h
 exact isTrue_not (ha pins s σ H (fun c H1=>Q (!c) H1) I h)
def Cf(ta tb:TE):TE:=fun σ H Q=>ta σ H fun x H1=>∃c,x= .bl c∧if c=true then tb σ H1 Q else Q (.bl false) H1
def Cj(ta:TE):TE:=fun σ H Q=>ta σ H fun x H1=>∃c,x= .bl c∧Q (.bl (!c)) H1
theorem Ak{op}{t:TE}(h:PE X a t):PE X (.BoolOp op [a] pos) t:=fun pins s σ H Q I hw=>BoolOp_one (h pins s σ H Q I hw)
theorem Af(ha:PE X a ta)(hb:PE X (.BoolOp .And (b::rest) pos) tb):PE X (.BoolOp .And (a::b::rest) pos) (Cf ta tb):=by
 intro pins s σ H Q I h
 refine BoolOp_and (bV (ha pins s σ H _ I h) fun v s1 ⟨x,H1,I1,r1,q1⟩=>?_)
 obtain⟨c,rfl,q1⟩:=q1
 cases r1
 refine wpAny_truthy_bool ?_
 cases c with
 |true=>exact hb pins s1 σ H1 Q I1 q1
 |false=>exact⟨.bl false,H1,I1,rfl,q1⟩
theorem Aj(ha:PE X a ta):PE X (.UnaryOp .Not a pos) (Cj ta):=by
 intro pins s σ H Q I h
 refine UnaryOp_ (bV (ha pins s σ H _ I h) fun v s1 ⟨x,H1,I1,r1,q1⟩=>?_)
 obtain⟨c,rfl,q1⟩:=q1
 cases r1
 exact not_of (wpAny_truthy_bool ⟨.bl (!c),H1,I1,rfl,q1⟩)
def G4(t:TT)(ta tb:TE):TE:=fun σ H Q=>t σ H fun c H1=>if c=true then ta σ H1 Q else tb σ H1 Q
theorem v8{c:Expr}(hc:PT X c tA)(ha:PE X a ta)(hb:PE X b tb):PE X (.IfExp c a b pos) (G4 tA ta tb):=by
 intro pins s σ H Q I h
 refine wpAny_IfExp (bV (hc pins s σ H _ I h) fun d s1 ⟨H1,I1,q1⟩=>?_)
 cases d with
 |true=>exact ha pins s1 σ H1 Q I1 q1
 |false=>exact hb pins s1 σ H1 Q I1 q1
end
def SqL(K:W.Frag)(H:Hp)(a:Addr)(xs:List V):Prop:=
 Rd H a (.lst xs)∨
  ∃(o:Obj) (aG:Array Value) (n:Nat),K.lookup a=some o∧o.cls= .type "list"∧o.dict=none∧o.data= .seq aG n∧aG.size≤sizeLine∧Vals xs aG.toList
def SqT(K:W.Frag)(H:Hp)(a:Addr)(xs:List V):Prop:=
 Rd H a (.tup xs)∨
  ∃(o:Obj) (aG:Array Value) (n:Nat),K.lookup a=some o∧o.cls= .type "tuple"∧o.data= .seq aG n∧aG.size≤sizeLine∧Vals xs aG.toList
def C_:Value→Option V
 | .none=>some .non
 | .bool b=>some (.bl b)
 | .int i _=>some (.int i)
 | .str x _=>some (.str x)
 | .bytes b _=>some (.byt b)
 | .float b _=>some (.flt b)
 | .ref a=>some (.ref a)
 | .type n=>some (.ty n)
 |_=>none
theorem RelV.abs{x:V}{u:Value}(r:RelV x u):C_ u=some x:=by
 cases x with
 |non=>cases r;rfl
 |bl _=>cases r;rfl
 |int _=>obtain⟨t,rfl⟩:=r;rfl
 |str _=>obtain⟨t,rfl⟩:=r;rfl
 |byt _=>obtain⟨t,rfl⟩:=r;rfl
 |flt _=>obtain⟨t,rfl⟩:=r;rfl
 |ref _=>cases r;rfl
 |ty _=>cases r;rfl
theorem RelV.inj{x y:V}{u:Value}(r:RelV x u)(q:RelV y u):x=y:=Option.some.inj (r.abs.symm.trans q.abs)
theorem Vals.inj:∀{xs ys:List V}{us:List Value},Vals xs us→Vals ys us→xs=ys
 |_,_,_, .nil, .nil=>rfl
 |_,_,_, .cons r t, .cons r' t'=>by rw[r.inj r',Vals.inj t t']
section
variable{X:Cx}{pins:List (Addr×Obj)}{σ:St}{H:Hp}{s:Shared}{a:Addr}{xs ys:List V}
theorem SqL.of{K:W.Frag}(h:H a=some (.lst xs)):SqL K H a xs:= .inl (.inl h)
theorem SqT.of{K:W.Frag}(h:H a=some (.tup xs)):SqT K H a xs:= .inl (.inl h)
theorem Inv.list(I:Inv X pins σ H s)(h:SqL X.K H a xs):∃aG:List Value,Vals xs aG∧PlainL s.heap a aG.toArray∧xs.length≤sizeLine:=by
 rcases h with h | ⟨o,aG,n,hk,hc,hd,hs,hz,r⟩
 ·obtain⟨z,aG,n,r,e⟩:=h.ok I.hok
  exact⟨aG,r,⟨_,n,e,rfl,rfl,rfl⟩,z⟩
 ·refine⟨aG.toList,r,⟨o,n,I.kIn a o hk,hc,hd,by simpa using hs⟩,?_⟩
  have e:=r.length
  simp only[Array.length_toList] at e
  omega
theorem Inv.tuple(I:Inv X pins σ H s)(h:SqT X.K H a xs):∃aG:List Value,Vals xs aG∧IsTup s.heap a aG.toArray∧xs.length≤sizeLine:=by
 rcases h with h | ⟨o,aG,n,hk,hc,hs,hz,r⟩
 ·obtain⟨z,aG,r,p⟩:=h.ok I.hok
  exact⟨aG,r,p,z⟩
 ·refine⟨aG.toList,r,⟨o,I.kIn a o hk,hc,n,by simpa using hs⟩,?_⟩
  have e:=r.length
  simp only[Array.length_toList] at e
  omega
theorem Inv.list_inj(I:Inv X pins σ H s)(h:SqL X.K H a xs)(h':SqL X.K H a ys):xs=ys:=by
 obtain⟨aG,r,⟨o,n,e,_,_,d⟩,_⟩:=I.list h
 obtain⟨its',r',⟨o',n',e',_,_,d'⟩,_⟩:=I.list h'
 rw[e] at e';cases e'
 rw[d] at d'
 injection d' with d1 _
 have:aG=its':=by simpa using congrArg Array.toList d1
 subst this
 exact r.inj r'
theorem Inv.tuple_inj(I:Inv X pins σ H s)(h:SqT X.K H a xs)(h':SqT X.K H a ys):xs=ys:=by
 obtain⟨aG,r,⟨o,e,_,n,d⟩,_⟩:=I.tuple h
 obtain⟨its',r',⟨o',e',_,n',d'⟩,_⟩:=I.tuple h'
 rw[e] at e';cases e'
 rw[d] at d'
 injection d' with d1 _
 have:aG=its':=by simpa using congrArg Array.toList d1
 subst this
 exact r.inj r'
end
abbrev Cx.wish(X:Cx)(E:Value→Shared→Prop):Cx:={X with xe:=E}
abbrev Cx.nox(X:Cx):Cx:=X.wish fun _ _=>False
theorem Cx.Ok.wish{X:Cx}(ok:X.Ok)(E:Value→Shared→Prop):(X.wish E).Ok:=
 ⟨ok.mod,ok.kind,ok.glob,ok.blt,ok.above,ok.inj,ok.has,ok.cab,ok.hd,ok.frames,ok.stk,ok.exf,ok.bs,ok.bsz,ok.noex,ok.exfs,ok.funs,ok.frf⟩
theorem Cx.Ok.unwish{X:Cx}{E:Value→Shared→Prop}(ok:(X.wish E).Ok):X.Ok:=
 ⟨ok.mod,ok.kind,ok.glob,ok.blt,ok.above,ok.inj,ok.has,ok.cab,ok.hd,ok.frames,ok.stk,ok.exf,ok.bs,ok.bsz,ok.noex,ok.exfs,ok.funs,ok.frf⟩
section
variable{X:Cx}{pins:List (Addr×Obj)}{σ:St}{H:Hp}{s:Shared}{E:Value→Shared→Prop}
theorem Inv.wish(I:Inv X pins σ H s)(E:Value→Shared→Prop):Inv (X.wish E) pins σ H s:=⟨I.ok.wish E,I.os,I.bare,I.base,I.loc,I.cell,I.free,I.freeC,I.pin,I.hok,I.len⟩
theorem Inv.unwish(I:Inv (X.wish E) pins σ H s):Inv X pins σ H s:=⟨I.ok.unwish,I.os,I.bare,I.base,I.loc,I.cell,I.free,I.freeC,I.pin,I.hok,I.len⟩
theorem SP.unwish{D:Ends}{f:Flow}{s':Shared}(h:SP (X.wish E) pins D f s'):SP X pins D f s':=by
 cases f with
 |next=>obtain⟨σ',H',I,q⟩:=h;exact⟨σ',H',I.unwish,q⟩
 |brk=>obtain⟨σ',H',I,q⟩:=h;exact⟨σ',H',I.unwish,q⟩
 |cont=>obtain⟨σ',H',I,q⟩:=h;exact⟨σ',H',I.unwish,q⟩
 |ret u=>obtain⟨v,σ',H',I,r,q⟩:=h;exact⟨v,σ',H',I.unwish,r,q⟩
end
section
variable{X:Cx}{st:Stmt}{rest:List Stmt}{t u:TS}{e:Expr}{te:TE}{pos:Pos}
def Ci:TS:=fun D σ H=>D.nx σ H
def EE(t u:TS):TS:=fun D σ H=>t {D with nx:=u D} σ H
theorem yo:PSs X [] Ci:=fun _ _ σ H _ I h=>wpAny_execs_nil ⟨σ,H,I,h⟩
theorem wd(h1:PS X st t)(h2:PSs X rest u):PSs X (st::rest) (EE t u):=by
 intro pins s σ H D I h
 refine wpAny_execs_cons (bV (h1 pins s σ H {D with nx:=u D} I h) fun f s1 q=>?_)
 cases f with
 |next=>
  obtain⟨σ',H',I',q⟩:=q
  exact h2 pins s1 σ' H' D I' q
 |ret v=>exact q
 |brk=>exact q
 |cont=>exact q
theorem yp(h1:PS X st t):PSs X [st] t:=by
 intro pins s σ H D I h
 refine wpAny_execs_cons (bV (h1 pins s σ H D I h) fun f s1 q=>?_)
 cases f with
 |next=>exact wpAny_execs_nil q
 |ret v=>exact q
 |brk=>exact q
 |cont=>exact q
theorem Inv.quiet{pins:List (Addr×Obj)}{σ:St}{H:Hp}{s:Shared}(I:Inv X pins σ H s):interactive X.env=false:=by simp[interactive,I.ok.kind]
def wQ(te:TE):TS:=fun D σ H=>te σ H fun _ H1=>D.nx σ H1
theorem n9(he:PE X e te)(hs:swapsWith e none pos.line X.env=pure false:=by rfl):PS X (.Expr e pos) (wQ te):=by
 intro pins s σ H D I h
 exact wpAny_Expr_any (bV (he pins s σ H _ I h) fun v s1 ⟨x,H1,I1,r1,q1⟩=>⟨σ,H1,I1,q1⟩) I.quiet hs
def ED(te:TE):TS:=fun D σ H=>te σ H D.rt
theorem Au(he:PE X e te):PS X (.Return (some e) pos) (ED te):=by
 intro pins s σ H D I h
 exact wpAny_Return_some (bV (he pins s σ H _ I h) fun v s1 ⟨x,H1,I1,r1,q1⟩=>⟨x,σ,H1,I1,r1,q1⟩)
def EA(c:TT)(t u:TS):TS:=fun D σ H=>c σ H fun b H1=>if b=true then t D σ H1 else u D σ H1
theorem B2{c:Expr}{a b:List Stmt}{tc:TT}(hc:PT X c tc)(ha:PSs X a t)(hb:PSs X b u):PS X (.If c a b pos) (EA tc t u):=by
 intro pins s σ H D I h
 refine wpAny_If (bV (hc pins s σ H _ I h) fun d s1 ⟨H1,I1,q1⟩=>?_)
 cases d with
 |true=>exact ha pins s1 σ H1 D I1 q1
 |false=>exact hb pins s1 σ H1 D I1 q1
end
abbrev TG:=V→St→Hp→(St→Hp→Prop)→Prop
abbrev yD:=List V→St→Hp→(St→Hp→Prop)→Prop
def PG(X:Cx)(target:Expr)(t:TG):Prop:=
 ∀(pins:List (Addr×Obj)) (s:Shared) (σ:St) (H:Hp) (v:V) (u:Value) (Q:St→Hp→Prop),Inv X pins σ H s→RelV v u→t v σ H Q→
  wpAny (model X.prog X.w) X.A (assign target X.env u) (fun _ s'=>∃σ' H',Inv X pins σ' H' s'∧Q σ' H') X.xe s
def Cz(X:Cx)(ts:List Expr)(t:yD):Prop:=
 ∀(pins:List (Addr×Obj)) (s:Shared) (σ:St) (H:Hp) (vs:List V) (us:List Value) (Q:St→Hp→Prop),Inv X pins σ H s→Vals vs us→t vs σ H Q→
  wpAny (model X.prog X.w) X.A (assignInOrder ((assignEach ts X.env).map (·.2)) us) (fun _ s'=>∃σ' H',Inv X pins σ' H' s'∧Q σ' H') X.xe s
abbrev C5:=V→V→V→Hp→(Hp→Prop)→Prop
section
variable{X:Cx}{pos:Pos}
def vb(i:Nat):TG:=fun v σ H Q=>Q (σ.set i (some v)) H
theorem bZ{i:Nat}{x:Str}(hN:X.N.Nodup)(hi:X.N[i]? =some x)(hx:Loc X.env.scope x)(hf:X.fn x=true∨X.env.scope.names.lookup x=some .local:=by first | exact .inl rfl | exact .inr rfl | assumption):PG X (.Name x pos) (vb i):=by
 intro pins s σ H v u Q I r h
 exact wpAny_assign_Name (qe I hN hi hx r (fun s' I'=>⟨_,H,I',h⟩) hf)
def Br:yD:=fun vs σ H Q=>vs=[]∧Q σ H
def yM(t:TG)(u:yD):yD:=fun vs σ H Q=>∃v r,vs=v::r∧t v σ H fun σ' H'=>u r σ' H' Q
theorem yh:Cz X [] Br:=by
 intro pins s σ H vs us Q I r h
 obtain⟨e,h⟩:=h
 subst e
 cases r
 exact assignInOrder_nil ⟨σ,H,I,h⟩
theorem pW{e:Expr}{es:List Expr}{t:TG}{u:yD}(h1:PG X e t)(h2:Cz X es u)
 (hs:(assignEach (e::es) X.env).map (·.2)=assign e X.env::(assignEach es X.env).map (·.2):=by rfl):Cz X (e::es) (yM t u):=by
 intro pins s σ H vs us Q I r h
 obtain⟨v,vr,e1,h⟩:=h
 subst e1
 cases r with
 |cons r rr=>
  rw[hs]
  refine assignInOrder_cons (bV (h1 pins s σ H _ _ _ I r h) fun _ s1 ⟨σ1,H1,I1,q1⟩=>?_)
  exact h2 pins s1 σ1 H1 _ _ Q I1 rr q1
def Bs(K:W.Frag)(n:Nat)(t:yD):TG:=fun v σ H Q=>∃a xs,v= .ref a∧SqT K H a xs∧xs.length=n∧t xs σ H Q
theorem Ao{es:List Expr}{k:Nat}{t:yD}{n:Nat}(hc:X.calm=true)(h:Cz X es t)
 (hn:(assignEach es X.env).length=n:=by rfl)(qQ:(assignEach es X.env).findIdx? (·.1)=none:=by rfl):PG X (.Tuple es k pos) (Bs X.K n t):=by
 intro pins s σ H v u Q I r hw
 obtain⟨a,xs,e1,hq,hl,hw⟩:=hw
 subst e1
 cases r
 obtain⟨aG,rv,ht,hz⟩:=I.tuple hq
 refine assign_Tuple_tuple (I.ok.hd hc) ht (by simp[hn,←hl,rv.length]) qQ fun h' hx=>?_
 have I1:Inv X pins σ H {s with heap:=h'}:=I.kept (t':=s.toks) fun b o e=>hx b o (Nat.ne_of_lt (Heap.lt_size e)) e
 exact h pins _ σ H xs _ Q I1 (by simpa using rv) hw
def xx(to ti:TE)(t:C5):TG:=fun v σ H Q=>to σ H fun o H1=>ti σ H1 fun i H2=>t o i v H2 fun H3=>Q σ H3
def Et(te:TE)(g:TG):TS:=fun D σ H=>te σ H fun x H1=>g x σ H1 D.nx
theorem rD{tg e:Expr}{te:TE}{g:TG}(he:PE X e te)(hg:PG X tg g)(hs:swapsWithSole [tg] e pos.line X.env=pure false:=by rfl)(hw:swappedStores [tg] e X.env=pure none:=by rfl)
 (h1:(assignEach [tg] X.env).map (·.2)=[assign tg X.env]:=by rfl):PS X (.Assign [tg] e pos) (Et te g):=by
 intro pins s σ H D I h
 refine wpAny_Assign_stores (bV (he pins s σ H _ I h) fun v s1 ⟨x,H1,I1,r1,q1⟩=>?_) hs hw
 rw[h1]
 exact bV (hg pins s1 σ H1 x v _ I1 r1 q1) fun _ s2 q=>q
end
section
variable{X:Cx}{pos:Pos}
end
structure It where
 go:Nat→Hp→Prop
 yld:Nat→Hp→V→Hp→Prop
 stop:Nat→Hp→Prop
def oR(X:Cx)(pins:List (Addr×Obj))(H:Hp)(b:Addr):Prop:=
 H b=none∧b≠X.env.locals∧b∉X.fs∧(b∈X.ex∨X.s₀.heap.objs.size≤b)∧(∀x c,X.env.cells.lookup x=some c→c≠b)∧∀p∈X.pn++pins,p.1≠b
theorem Inv.fpOk{X:Cx}{pins:List (Addr×Obj)}{σ:St}{H H':Hp}{s:Shared}{b:Addr}(I:Inv X pins σ H s)(hb:s.heap.objs.size≤b)(hn:H' b=none):oR X pins H' b:=by
 refine⟨hn,Nat.ne_of_gt (Nat.lt_of_lt_of_le I.lt hb),I.nofs hb, .inr (Nat.le_trans I.sz hb),fun x c e z=>?_,fun p hp z=>?_⟩
 ·obtain⟨v,q⟩:=I.cell x c e
  exact absurd (Nat.lt_of_lt_of_le q.lt (by rw[z];exact hb)) (Nat.lt_irrefl _)
 ·exact absurd (Nat.lt_of_lt_of_le (Heap.lt_size (I.pin p hp).1) (by rw[z];exact hb)) (Nat.lt_irrefl _)
structure Turn (P:Program) (w:World) (K:W.Frag) (tg:Expr) (J:It) (fp:List Addr) (it:Addr) (tn:Nat→Heap→Prop):Prop where
 mem:it∈fp
 obj:∀i h,tn i h→∀b∈fp,∃o,h.get? b=some o∧∀v,o.data≠ .cell v
 keep:∀i h h',tn i h→(∀b∈fp,∀o,h.get? b=some o→h'.get? b=some o)→tn i h'
 item:∀(X:Cx),X.prog=P→X.w=w→X.K=K→X.calm=true→∀(i:Nat) (pins:List (Addr×Obj)) (s:Shared) (σ:St) (H:Hp) (E:Value→Shared→Prop),Inv X pins σ H s→(∀b∈fp,oR X pins H b)→tn i s.heap→J.go i H→
  wpAny (model P w) X.A (pyNext (.ref it)) (fun r s1=>∃u,r=some u∧
   wpAny (model P w) X.A (letOwnedTupleGo tg (.ref it) u) (fun _ s2=>∃x H',Inv X pins σ H' s2∧RelV x u∧J.yld i H x H'∧tn (i+1) s2.heap∧∀b∈fp,H' b=none) E s1) E s
 done:∀(X:Cx),X.prog=P→X.w=w→X.K=K→X.calm=true→∀(i:Nat) (pins:List (Addr×Obj)) (s:Shared) (σ:St) (H:Hp) (E:Value→Shared→Prop),Inv X pins σ H s→(∀b∈fp,oR X pins H b)→tn i s.heap→J.stop i H→
  wpAny (model P w) X.A (pyNext (.ref it)) (fun r s1=>r=none∧Inv X pins σ H s1) E s
 self:∀(A:Around) (i:Nat) (s:Shared) (Q:Value→Shared→Prop) (E:Value→Shared→Prop),tn i s.heap→Q (.ref it) s→wpAny (model P w) A (pyIter (.ref it)) Q E s
abbrev TI:=St→Hp→(It→Hp→Prop)→Prop
def EL(X:Cx)(pins:List (Addr×Obj))(σ:St)(tg:Expr)(R:It→Hp→Prop)(Fl:Value)(s2:Shared):Prop:=
 ∃(it:Addr) (fp:List Addr) (tn:Nat→Heap→Prop) (J:It) (H':Hp),Fl= .ref it∧Inv X pins σ H' s2∧Turn X.prog X.w X.K tg J fp it tn∧tn 0 s2.heap∧(∀b∈fp,oR X pins H' b)∧R J H'
def PI(X:Cx)(tg iter:Expr)(wi:TI):Prop:=
 ∀(pins:List (Addr×Obj)) (s:Shared) (σ:St) (H:Hp) (R:It→Hp→Prop),Inv X pins σ H s→wi σ H R→
  wpAny (model X.prog X.w) X.A (eval iter X.env) (fun v s1=>wpAny (model X.prog X.w) X.A (pyIter v) (EL X pins σ tg R) X.xe s1) X.xe s
theorem ph{M:Model}{A:Around}{E:Value→Shared→Prop}{s:Shared}{tg:Expr}{it:Addr}{u:Value}{o:Obj}{n:String}{vs:Array Value}{Q:Unit→Shared→Prop}(ho:s.heap.get? it=some o)(hc:o.cls= .type n)(hd:o.data= .fields vs)
 (hn:["enumerate","zip","dict_itemiterator","dict_reverseitemiterator","odict_iterator","itertools.zip_longest","itertools.pairwise"].contains n=false)(hQ:Q () s):wpAny M A (letOwnedTupleGo tg (.ref it) u) Q E s:=by
 unfold letOwnedTupleGo
 cases tg<;>first
  |exact wpAny_pure hQ
  |(cases u<;>first
    |exact wpAny_pure hQ
    |(refine wpAny_bind (wpAny_load ho ?_)
      rw[hc,hd]
      show wpAny M A (if (["enumerate","zip","dict_itemiterator","dict_reverseitemiterator","odict_iterator","itertools.zip_longest","itertools.pairwise"].contains n&&vs[0]? ==some (rawInt _))=true then _ else _) Q E s
      rw[if_neg (by intro h;rw[hn,Bool.false_and] at h;cases h)]
      exact wpAny_pure hQ))
def CW(K:W.Frag)(a:Addr):It:=
 ⟨fun i H=>∃xs x,SqL K H a xs∧xs[i]? =some x,fun i H x H'=>H'=H∧∀xs,SqL K H a xs→xs[i]? =some x,fun i H=>∃xs,SqL K H a xs∧xs.length≤i⟩
def CY(K:W.Frag)(a:Addr):It:=
 ⟨fun i H=>∃xs x,SqT K H a xs∧xs[i]? =some x,fun i H x H'=>H'=H∧∀xs,SqT K H a xs→xs[i]? =some x,fun i H=>∃xs,SqT K H a xs∧xs.length≤i⟩
def Cw(lo:Int)(n:Nat):It:=⟨fun i _=>i<n,fun i H x H'=>H'=H∧x= .int (lo+i),fun i _=>n≤i⟩
theorem uz{P:Program}{w:World}{K:W.Frag}{tg:Expr}(a it:Addr):Turn P w K tg (CW K a) [it] it (fun i h=>h.IsListIter it a i) where
 mem:=by simp
 obj:=fun i h st b hb=>by
  have e:b=it:=by simpa using hb
  subst e
  obtain⟨o,e,c,d⟩:=st
  exact⟨o,e,fun v z=>by rw[d] at z;cases z⟩
 keep:=fun i h h' st k=>st.at fun o e=>k it (by simp) o e
 item:=by
  intro X hP hw hK hc i pins s σ H E I hf st hg
  subst hP hw hK
  obtain⟨xs,x,hq,hx⟩:=hg
  obtain⟨aG,rv,p,hz⟩:=I.list hq
  obtain⟨u,hu,ru⟩:=rv.get hx
  obtain⟨f0,f1,f2,f3,f4,f5⟩:=hf it (by simp)
  refine wpAny_pyNext_list_item st p.isList (x:=u) (by simpa using hu) fun h' qd sb=>?_
  have I1:Inv X pins σ H {s with heap:=h'}:=I.turned (t':=s.toks) (fun b o hb e=>(sb.2 b hb).trans e) f0 f1 f3 f4 f5
  obtain⟨o,e,c,d⟩:=id qd
  exact⟨u,rfl,ph (s:={s with heap:=h'}) e c d (by decide) ⟨x,H,I1,ru,⟨rfl,fun ys hy=>by rw[I.list_inj hy hq];exact hx⟩,qd,fun b hb=>(hf b hb).1⟩⟩
 done:=by
  intro X hP hw hK hc i pins s σ H E I hf st hg
  subst hP hw hK
  obtain⟨xs,hq,hx⟩:=hg
  obtain⟨aG,rv,p,hz⟩:=I.list hq
  obtain⟨f0,f1,f2,f3,f4,f5⟩:=hf it (by simp)
  have hl:=rv.length
  exact wpAny_pyNext_list_end (I.ok.hd hc) st p.isList (by simp;omega) fun h' eb=>⟨rfl,I.turned (t':=s.toks) (fun b o hb e=>eb b o hb e) f0 f1 f3 f4 f5⟩
 self:=fun _ _ _ _ _ st h=>wpAny_pyIter_listiter st h
theorem rP{P:Program}{w:World}{K:W.Frag}{tg:Expr}(a it:Addr):Turn P w K tg (CY K a) [it] it (fun i h=>h.IsTupleIter it a i) where
 mem:=by simp
 obj:=fun i h st b hb=>by
  have e:b=it:=by simpa using hb
  subst e
  obtain⟨o,e,c,d⟩:=st
  exact⟨o,e,fun v z=>by rw[d] at z;cases z⟩
 keep:=fun i h h' st k=>st.at fun o e=>k it (by simp) o e
 item:=by
  intro X hP hw hK hc i pins s σ H E I hf st hg
  subst hP hw hK
  obtain⟨xs,x,hq,hx⟩:=hg
  obtain⟨aG,rv,p,hz⟩:=I.tuple hq
  obtain⟨u,hu,ru⟩:=rv.get hx
  obtain⟨f0,f1,f2,f3,f4,f5⟩:=hf it (by simp)
  refine wpAny_pyNext_tuple_item st (show s.heap.IsTuple a aG.toArray from p) (x:=u) (by simpa using hu) fun h' qd sb=>?_
  have I1:Inv X pins σ H {s with heap:=h'}:=I.turned (t':=s.toks) (fun b o hb e=>(sb.2 b hb).trans e) f0 f1 f3 f4 f5
  obtain⟨o,e,c,d⟩:=id qd
  exact⟨u,rfl,ph (s:={s with heap:=h'}) e c d (by decide) ⟨x,H,I1,ru,⟨rfl,fun ys hy=>by rw[I.tuple_inj hy hq];exact hx⟩,qd,fun b hb=>(hf b hb).1⟩⟩
 done:=by
  intro X hP hw hK hc i pins s σ H E I hf st hg
  subst hP hw hK
  obtain⟨xs,hq,hx⟩:=hg
  obtain⟨aG,rv,p,hz⟩:=I.tuple hq
  obtain⟨f0,f1,f2,f3,f4,f5⟩:=hf it (by simp)
  have hl:=rv.length
  exact wpAny_pyNext_tuple_end (I.ok.hd hc) st (show s.heap.IsTuple a aG.toArray from p) (by simp;omega) fun h' eb=>⟨rfl,I.turned (t':=s.toks) (fun b o hb e=>eb b o hb e) f0 f1 f3 f4 f5⟩
 self:=fun _ _ _ _ _ st h=>wpAny_pyIter_tupleiter st h
theorem rO{P:Program}{w:World}{K:W.Frag}{tg:Expr}(it:Addr)(lo:Int)(n:Nat):Turn P w K tg (Cw lo n) [it] it (fun i h=>IsRangeIter h it (lo+(i:Nat)*1) ((n:Int) - (i:Nat)) 1) where
 mem:=by simp
 obj:=fun i h st b hb=>by
  have e:b=it:=by simpa using hb
  subst e
  exact⟨_,st,fun v z=>by
   have z':Data.fields _=Data.cell v:=z
   cases z'⟩
 keep:=fun i h h' st k=>k it (by simp) _ st
 item:=by
  intro X hP hw hK hc i pins s σ H E I hf st hg
  subst hP hw hK
  obtain⟨f0,f1,f2,f3,f4,f5⟩:=hf it (by simp)
  have W:=Walks.range (prog:=X.prog) (w:=X.w) (I.ok.hd hc) it lo 1 n
  refine W.item i s _ _ hg st fun v h' tk hv qd kk=>?_
  obtain⟨t,rfl⟩:=hv
  have I1:Inv X pins σ H {s with heap:=h',toks:=tk}:=I.turned (fun b o hb e=>kk b o (by simpa using hb) e) f0 f1 f3 f4 f5
  refine⟨_,rfl,ph (s:={s with heap:=h',toks:=tk}) (n:="range_iterator") qd rfl rfl (by decide) ⟨.int (lo+i),H,I1,⟨t,?_⟩,⟨rfl,rfl⟩,qd,fun b hb=>(hf b hb).1⟩⟩
  rw[Int.mul_one]
 done:=by
  intro X hP hw hK hc i pins s σ H E I hf st hg
  subst hP hw hK
  obtain⟨f0,f1,f2,f3,f4,f5⟩:=hf it (by simp)
  exact wpAny_pyNext_range_end (I.ok.hd hc) st (by have:n≤i:=hg;omega) fun h' eb=>⟨rfl,I.turned (t':=s.toks) (fun b o hb e=>eb b o hb e) f0 f1 f3 f4 f5⟩
 self:=fun _ _ _ _ _ st h=>wpAny_pyIter_rangeiter st h
section
variable{X:Cx}{tg:Expr}
def BI(K:W.Frag)(tl:TE):TI:=fun σ H R=>tl σ H fun x H1=>∃a,x= .ref a∧(∃xs,SqL K H1 a xs)∧R (CW K a) H1
def D4(K:W.Frag)(tl:TE):TI:=fun σ H R=>tl σ H fun x H1=>∃a,x= .ref a∧(∃xs,SqT K H1 a xs)∧R (CY K a) H1
theorem yi{l:Expr}{tl:TE}(hl:PE X l tl):PI X tg l (BI X.K tl):=by
 intro pins s σ H R I h
 refine bV (hl pins s σ H _ I h) fun v s1 ⟨x,H1,I1,r1,q1⟩=>?_
 obtain⟨a,e,⟨xs,hq⟩,q⟩:=q1
 subst e
 cases r1
 obtain⟨aG,rv,p,hz⟩:=I1.list hq
 refine wpAny_pyIter_list p.isList ?_
 refine⟨s1.heap.objs.size,[s1.heap.objs.size],_,_,H1,rfl,I1.kept (t':=s1.toks) fun b o e=>Heap.get?_push_of_some _ e,uz a _,⟨_,Heap.get?_push_size _ rfl,rfl,rfl⟩,fun b hb=>?_,q⟩
 have e:b=s1.heap.objs.size:=by simpa using hb
 subst e
 exact I1.fpOk (Nat.le_refl _) (I1.hok.fresh (Nat.le_refl _))
theorem Aq{l:Expr}{tl:TE}(hl:PE X l tl):PI X tg l (D4 X.K tl):=by
 intro pins s σ H R I h
 refine bV (hl pins s σ H _ I h) fun v s1 ⟨x,H1,I1,r1,q1⟩=>?_
 obtain⟨a,e,⟨xs,hq⟩,q⟩:=q1
 subst e
 cases r1
 obtain⟨aG,rv,p,hz⟩:=I1.tuple hq
 refine wpAny_pyIter_tuple (show s1.heap.IsTuple a aG.toArray from p) ?_
 refine⟨s1.heap.objs.size,[s1.heap.objs.size],_,_,H1,rfl,I1.kept (t':=s1.toks) fun b o e=>Heap.get?_push_of_some _ e,rP a _,⟨_,Heap.get?_push_size _ rfl,rfl,rfl⟩,fun b hb=>?_,q⟩
 have e:b=s1.heap.objs.size:=by simpa using hb
 subst e
 exact I1.fpOk (Nat.le_refl _) (I1.hok.fresh (Nat.le_refl _))
theorem wt{pins:List (Addr×Obj)}{σ:St}{H:Hp}{s:Shared}{R:It→Hp→Prop}{E:Value→Shared→Prop}{lo hi:Int}{t u v:Tok}{tk:Nat}(I:Inv X pins σ H s)(h1: -(2 ^ 62)≤lo)(h2:lo<2 ^ 62)(h3: -(2 ^ 62)≤hi)(h4:hi<2 ^ 62)
 (q:R (Cw lo (hi - lo).toNat) H):wpAny (model X.prog X.w) X.A (pyIter (.ref s.heap.objs.size)) (EL X pins σ tg R) E {s with heap:=s.heap.push {cls:= .type "range",data:= .fields #[.int lo t, .int hi u, .int 1 v]},toks:=tk}:=by
 refine wpAny_pyIter_range (IsRange.new ..) (small_one h1 h2 h3 h4) ?_
 have I1:Inv X pins σ H {s with heap:=s.heap.push {cls:= .type "range",data:= .fields #[.int lo t, .int hi u, .int 1 v]},toks:=tk}:=I.kept fun b o e=>Heap.get?_push_of_some _ e
 refine⟨(s.heap.push {cls:= .type "range",data:= .fields #[.int lo t, .int hi u, .int 1 v]}).objs.size,[(s.heap.push {cls:= .type "range",data:= .fields #[.int lo t, .int hi u, .int 1 v]}).objs.size],_,_,H,rfl,
  I1.kept (t':=tk) fun b o e=>Heap.get?_push_of_some _ e,rO _ lo (hi - lo).toNat,?_,fun b hb=>?_,q⟩
 ·have e1:lo+((0:Nat):Int)*1=lo:=by simp
  have e2:(((hi - lo).toNat:Nat):Int) - ((0:Nat):Int)=Builtin.Range.rangeSize lo hi 1:=by rw[rangeSize_one];split<;>omega
  show IsRangeIter _ _ (lo+((0:Nat):Int)*1) ((((hi - lo).toNat:Nat):Int) - ((0:Nat):Int)) 1
  rw[e1,e2]
  exact Heap.get?_push_size _ rfl
 ·have e:b=(s.heap.push {cls:= .type "range",data:= .fields #[.int lo t, .int hi u, .int 1 v]}).objs.size:=by simpa using hb
  subst e
  exact I1.fpOk (Nat.le_refl _) (I1.hok.fresh (Nat.le_refl _))
def BJ(ta:TA):TI:=fun σ H R=>ta σ H fun vs H1=>∃j:Int,vs=[.int j]∧ -(2 ^ 62)≤j∧j<2 ^ 62∧R (Cw 0 j.toNat) H1
theorem uo{a:Expr}{ta:TA}{p pos:Pos}(hg:Gl X "range")(hm:X.mg "range"=none)(ha:PA X [a] ta)(hs:starEach [a] X.env=[(false,eval a X.env)]:=by rfl):PI X tg (.Call (.Name "range" p) [a] [] pos) (BJ ta):=by
 intro pins s σ H R I h
 refine Call_ (nL I hg hm boot_range (PyProof.Rows.callWith_type1 (bV (ha pos pins s σ H _ I h) fun us s1 ⟨vs,H1,I1,r1,q1⟩=>?_) hs rfl))
 obtain⟨j,e,q1,q2,q⟩:=q1
 subst e
 cases r1 with
 |cons r rr=>
  cases rr
  obtain⟨t,rfl⟩:=r
  exact call_range_1 (wt I1 (by omega) (by omega) q1 q2 (by simpa using q))
def Ez(wi:TI)(g:TG)(tb:TS):TS:=fun D σ H=>wi σ H fun J H1=>∃W:Nat→Nat→St→Hp→Prop,(∃m,W 0 m σ H1)∧∀i m σ H,W i m σ H→
 (J.stop i H∧D.nx σ H)∨(J.go i H∧∃N:St→Hp→Prop,(∀σ' H',N σ' H'→∃m',m'<m∧W (i+1) m' σ' H')∧∀x H',J.yld i H x H'→g x σ H' fun σ2 H2=>tb {D with nx:=N,ct:=N,bk:=D.nx} σ2 H2)
def lr(fp:List Addr)(h:Heap):List (Addr×Obj):=fp.filterMap fun b=>(h.get? b).map fun o=>(b,o)
theorem fi{fp:List Addr}{h:Heap}{b:Addr}{o:Obj}(hb:b∈fp)(e:h.get? b=some o):(b,o)∈lr fp h:=List.mem_filterMap.mpr ⟨b,hb,by rw[e];rfl⟩
theorem ua{fp:List Addr}{h:Heap}{p:Addr×Obj}(hp:p∈lr fp h):p.1∈fp∧h.get? p.1=some p.2:=by
 obtain⟨b,hb,e⟩:=List.mem_filterMap.mp hp
 cases q:h.get? b with
 |none=>rw[q] at e;cases e
 |some o=>
  rw[q] at e
  have e':(b,o)=p:=Option.some.inj e
  subst e'
  exact⟨hb,q⟩
theorem Inv.pinned{pins:List (Addr×Obj)}{σ:St}{H:Hp}{s:Shared}{fp:List Addr}(I:Inv X pins σ H s)(hf:∀b∈fp,oR X pins H b)(ho:∀b∈fp,∃o,s.heap.get? b=some o∧∀v,o.data≠ .cell v):Inv X (pins++lr fp s.heap) σ H s:=
 I.pins_of fun p hp=>(List.mem_append.mp hp).elim (fun z=>I.pin p (List.mem_append_right _ z)) fun z=>by
  obtain⟨hb,e⟩:=ua z
  obtain⟨f0,f1,f2,_⟩:=hf p.1 hb
  obtain⟨o,e',d⟩:=ho p.1 hb
  rw[e] at e';cases e'
  exact⟨e,f0,f1,f2,d⟩
theorem Inv.unpinned{pins pl:List (Addr×Obj)}{σ:St}{H:Hp}{s:Shared}(I:Inv X (pins++pl) σ H s):Inv X pins σ H s:=I.pins_of fun p hp=>I.pin p (List.mem_append_right _ (List.mem_append_left _ hp))
theorem As{iter:Expr}{body:List Stmt}{wi:TI}{g:TG}{tb:TS}{pos:Pos}(hp:PassesOwn (model X.prog X.w) X.A X.env X.xe)(hc:X.calm=true)(hi:PI X tg iter wi)(hg:PG X tg g)(hb:PSs X body tb)
 (hs:∀x,foldedSetIterable iter X.env x=pure x:=by intro _;rfl):PS X (.For tg iter body [] pos) (Ez wi g tb):=by
 intro pins s σ H D I h
 refine wpAny_For (bV (hi pins s σ H _ I h) fun v s1 h1=>bV h1 fun Fl s2 h2=>?_) hs
 obtain⟨it,fp,tn,J,H2,e,I2,T,Ce,f2,W,⟨m0,w0⟩,turn⟩:=h2
 subst e
 have AF:∀{H':Hp},(∀b∈fp,H' b=none)→∀b∈fp,oR X pins H' b:=fun hn b hb=>⟨hn b hb,(f2 b hb).2⟩
 refine codeAny_forLoop_any (fun n s'=>∃i σ' H',Inv X pins σ' H' s'∧tn i s'.heap∧(∀b∈fp,H' b=none)∧W i n σ' H') ?_ m0 ⟨0,σ,H2,I2,Ce,fun b hb=>(f2 b hb).1,w0⟩
 rintro n s3 ⟨i,σ3,H3,I3,A1,CC,w3⟩
 rcases turn i n σ3 H3 w3 with⟨stop,qn⟩ | ⟨go,N,hN,step⟩
 ·refine wpAny_passesOwn hp (bV (T.done X rfl rfl rfl hc i pins s3 σ3 H3 X.xe I3 (AF CC) A1 stop) fun r s4 ⟨hr,I4⟩=>?_)
  subst hr
  exact wpAny_execs_nil ⟨σ3,H3,I4,qn⟩
 ·refine wpAny_passesOwn hp (bV (T.item X rfl rfl rfl hc i pins s3 σ3 H3 X.xe I3 (AF CC) A1 go) fun r s4 ⟨u,hr,h4⟩=>?_)
  subst hr
  refine wpAny_passesOwn hp (bV h4 fun _ s5 ⟨x,H5,I5,r5,y5,Es,FT⟩=>?_)
  have I5':=I5.pinned (AF FT) (T.obj _ _ Es)
  refine wpAny_passesOwn hp (bV (hg _ s5 σ3 H5 x u _ I5' r5 (step x H5 y5)) fun _ s6 ⟨σ6,H6,I6,q6⟩=>?_)
  refine wpAny_passesOwn hp (bV (hb _ s6 σ6 H6 _ I6 q6) fun f s7 q7=>?_)
  have again:∀{σ7:St}{H7:Hp},Inv X (pins++lr fp s5.heap) σ7 H7 s7→N σ7 H7→∃m,m<n∧∃i σ' H',Inv X pins σ' H' s7∧tn i s7.heap∧(∀b∈fp,H' b=none)∧W i m σ' H':=fun {σ7 H7} I7 n7=>by
   obtain⟨m',hm,w7⟩:=hN σ7 H7 n7
   refine⟨m',hm,i+1,σ7,H7,I7.unpinned,T.keep _ _ _ Es fun b hb o e=>(I7.pin (b,o) (List.mem_append_right _ (List.mem_append_right _ (fi hb e)))).1,fun b hb=>?_,w7⟩
   obtain⟨o,e,d⟩:=T.obj _ _ Es b hb
   exact(I7.pin (b,o) (List.mem_append_right _ (List.mem_append_right _ (fi hb e)))).2.1
  cases f with
  |next=>obtain⟨σ7,H7,I7,n7⟩:=q7;exact again I7 n7
  |cont=>obtain⟨σ7,H7,I7,n7⟩:=q7;exact again I7 n7
  |brk=>obtain⟨σ7,H7,I7,q7⟩:=q7;exact⟨σ7,H7,I7.unpinned,q7⟩
  |ret v=>obtain⟨x7,σ7,H7,I7,r7,q7⟩:=q7;exact⟨x7,σ7,H7,I7.unpinned,r7,q7⟩
end
abbrev R2:=V→V→Hp→VK→Prop
def OpR(X:Cx)(f:Value→Value→Sem Value)(r:R2):Prop:=
 ∀(pins:List (Addr×Obj)) (s:Shared) (σ:St) (H:Hp) (x y:V) (v u:Value) (Q:VK),Inv X pins σ H s→RelV x v→RelV y u→r x y H Q→
  wpAny (model X.prog X.w) X.A (f v u) (EP X pins σ Q) X.xe s
def C7(X:Cx)(f:Value→Sem Value)(r:V→Hp→VK→Prop):Prop:=
 ∀(pins:List (Addr×Obj)) (s:Shared) (σ:St) (H:Hp) (x:V) (v:Value) (Q:VK),Inv X pins σ H s→RelV x v→r x H Q→
  wpAny (model X.prog X.w) X.A (f v) (EP X pins σ Q) X.xe s
def CallR(X:Cx)(f:Value)(r:List V→Hp→VK→Prop):Prop:=
 ∀(pins:List (Addr×Obj)) (s:Shared) (σ:St) (H:Hp) (xs:List V) (us:List Value) (Q:VK),Inv X pins σ H s→Vals xs us→r xs H Q→
  wpAny (model X.prog X.w) X.A (call f us) (EP X pins σ Q) X.xe s
def C6(X:Cx)(r:V→Hp→(Bool→Hp→Prop)→Prop):Prop:=
 ∀(pins:List (Addr×Obj)) (s:Shared) (σ:St) (H:Hp) (x:V) (v:Value) (Q:Bool→Hp→Prop),Inv X pins σ H s→RelV x v→r x H Q→
  wpAny (model X.prog X.w) X.A (truthy v) (TP X pins σ Q) X.xe s
def Ck(r:R2)(ta tb:TE):TE:=fun σ H Q=>ta σ H fun x H1=>tb σ H1 fun y H2=>r x y H2 Q
def G8(r:V→Hp→VK→Prop)(ta:TE):TE:=fun σ H Q=>ta σ H fun x H1=>r x H1 Q
def rI(C:Int→Int→Prop)(g:Int→Int→V):R2:=fun x y H Q=>∃i j,x= .int i∧y= .int j∧C i j∧Q (g i j) H
def ur(g:Int→Int→V):R2:=fun x y H Q=>∃i j,x= .int i∧y= .int j∧Q (g i j) H
def rU(g:Int→V):V→Hp→VK→Prop:=fun x H Q=>∃i,x= .int i∧Q (g i) H
section
variable{X:Cx}{a b c:Expr}{ta tb tc:TE}{pos:Pos}
theorem y_(ha:PE X a ta)(hb:PE X b tb){pins:List (Addr×Obj)}{s:Shared}{σ:St}{H:Hp}{R:V→V→Hp→Prop}(I:Inv X pins σ H s)
 (h:ta σ H fun x H1=>tb σ H1 fun y H2=>R x y H2){Q:Value→Shared→Prop}{f:Value→Value→Sem Value}
 (hf:∀v u s2 x y H2,Inv X pins σ H2 s2→RelV x v→RelV y u→R x y H2→wpAny (model X.prog X.w) X.A (f v u) Q X.xe s2):
 wpAny (model X.prog X.w) X.A (eval a X.env) (fun v s₁=>wpAny (model X.prog X.w) X.A (eval b X.env) (fun u s₂=>wpAny (model X.prog X.w) X.A (f v u) Q X.xe s₂) X.xe s₁) X.xe s:=by
 refine bV (ha pins s σ H _ I h) fun v s1 ⟨x,H1,I1,r1,q1⟩=>?_
 refine bV (hb pins s1 σ H1 _ I1 q1) fun u s2 ⟨y,H2,I2,r2,q2⟩=>?_
 exact hf v u s2 x y H2 I2 r1 r2 q2
theorem B0{op:Operator}{r:R2}(ho:OpR X (binaryOp op) r)(ha:PE X a ta)(hb:PE X b tb):PE X (.BinOp a op b pos) (Ck r ta tb):=by
 intro pins s σ H Q I h
 exact wpAny_BinOp (y_ ha hb I h fun v u s2 x y H2 I2 rx ry q=>ho pins s2 σ H2 x y v u Q I2 rx ry q)
theorem B1{op:UnaryOp}{r:V→Hp→VK→Prop}(ho:C7 X (unaryOp op) r)(ha:PE X a ta):PE X (.UnaryOp op a pos) (G8 r ta):=by
 intro pins s σ H Q I h
 exact UnaryOp_ (bV (ha pins s σ H _ I h) fun v s1 ⟨x,H1,I1,r1,q1⟩=>ho pins s1 σ H1 x v Q I1 r1 q1)
theorem Ee{f:Value→Value→Sem Value}{C:Int→Int→Prop}{g:Int→Int→Int}
 (rule:∀(i j:Int) (t u:Tok) (s:Shared) (Q:Value→Shared→Prop) (E:Value→Shared→Prop),C i j→Q (.int (g i j) s.toks) {s with toks:=s.toks+1}→wpAny (model X.prog X.w) X.A (f (.int i t) (.int j u)) Q E s):
 OpR X f (rI C fun i j=> .int (g i j)):=by
 intro pins s σ H x y v u Q I rx ry h
 obtain⟨i,j,rfl,rfl,hc,q⟩:=h
 obtain⟨t,rfl⟩:=rx
 obtain⟨t',rfl⟩:=ry
 exact rule i j t t' s _ _ hc ⟨.int (g i j),H,I.tok _,⟨_,rfl⟩,q⟩
theorem BU{f:Value→Value→Sem Value}{g:Int→Int→Int}
 (rule:∀(i j:Int) (t u:Tok) (s:Shared) (Q:Value→Shared→Prop) (E:Value→Shared→Prop),Q (.int (g i j) s.toks) {s with toks:=s.toks+1}→wpAny (model X.prog X.w) X.A (f (.int i t) (.int j u)) Q E s):
 OpR X f (ur fun i j=> .int (g i j)):=by
 intro pins s σ H x y v u Q I rx ry h
 obtain⟨i,j,rfl,rfl,q⟩:=h
 obtain⟨t,rfl⟩:=rx
 obtain⟨t',rfl⟩:=ry
 exact rule i j t t' s _ _ ⟨.int (g i j),H,I.tok _,⟨_,rfl⟩,q⟩
theorem BS{f:Value→Value→Sem Value}{g:Int→Int→Bool}
 (rule:∀(i j:Int) (t u:Tok) (s:Shared) (Q:Value→Shared→Prop) (E:Value→Shared→Prop),Q (.bool (g i j)) s→wpAny (model X.prog X.w) X.A (f (.int i t) (.int j u)) Q E s):
 OpR X f (ur fun i j=> .bl (g i j)):=by
 intro pins s σ H x y v u Q I rx ry h
 obtain⟨i,j,rfl,rfl,q⟩:=h
 obtain⟨t,rfl⟩:=rx
 obtain⟨t',rfl⟩:=ry
 exact rule i j t t' s _ _ ⟨.bl (g i j),H,I,rfl,q⟩
def A3(i j:Int):Prop:=0<j∧j<1073741824
def CMul(i j:Int):Prop:=(-(2 ^ 64)<i∧i<2 ^ 64)∨(-(2 ^ 64)<j∧j<2 ^ 64)
theorem CMul.ok{i j:Int}(h:CMul i j):IntMulOk i j:=by
 rcases h with⟨h1,h2⟩ | ⟨h1,h2⟩
 ·exact .of_left (intBits_le_64 h1 h2)
 ·exact .of_right (intBits_le_64 h1 h2)
theorem zZ:OpR X (binaryOp .Add) (ur fun i j=> .int (i+j)):=BU fun _ _ _ _ _ _ _ q=>add_int q
theorem z6:OpR X (binaryOp .Sub) (ur fun i j=> .int (i - j)):=BU fun _ _ _ _ _ _ _ q=>sub_int q
theorem z3:OpR X (binaryOp .Mult) (rI CMul fun i j=> .int (i*j)):=Ee fun _ _ _ _ _ _ _ hc q=>mul_int q hc.ok
theorem xQ:OpR X (binaryOp .FloorDiv) (rI A3 fun i j=> .int (i / j)):=Ee fun i j _ _ _ _ _ hc q=>by
 have h1:(0:Int)<j:=hc.1
 have h2:j<1073741824:=hc.2
 exact floordiv_int (by omega) (by rw[Int.fdiv_eq_ediv_of_nonneg i (by omega)];exact q) (.inl (PyProof.noPylong_small (by omega)))
theorem z1:OpR X (binaryOp .Mod) (rI (fun _ j=>0<j) fun i j=> .int (i % j)):=Ee fun i j _ _ _ _ _ hc q=>by
 have h1:(0:Int)<j:=hc
 exact mod_int' (by omega) (by rw[Int.fmod_eq_emod_of_nonneg i (by omega)];exact q)
theorem G_{f:Value→Sem Value}{g:Int→Int}
 (rule:∀(i:Int) (t:Tok) (s:Shared) (Q:Value→Shared→Prop) (E:Value→Shared→Prop),Q (.int (g i) s.toks) {s with toks:=s.toks+1}→wpAny (model X.prog X.w) X.A (f (.int i t)) Q E s):
 C7 X f (rU fun i=> .int (g i)):=by
 intro pins s σ H x v Q I rx h
 obtain⟨i,rfl,q⟩:=h
 obtain⟨t,rfl⟩:=rx
 exact rule i t s _ _ ⟨.int (g i),H,I.tok _,⟨_,rfl⟩,q⟩
theorem AM:C7 X (unaryOp .USub) (rU fun i=> .int (-i)):=G_ fun _ _ _ _ _ q=>neg_int q
end
section
variable{X:Cx}{a b c:Expr}{ta tb tc:TE}{pos:Pos}
theorem u5{pins:List (Addr×Obj)}{σ:St}{H:Hp}{s:Shared}{Q:VK}{k k':Bool}(I:Inv X pins σ H s)(q:Q (.bl k) H)(e:k=k'):EP X pins σ Q (.bool k') s:=by
 subst e
 exact⟨.bl k,H,I,rfl,q⟩
theorem vM:OpR X (compareOp .Lt) (ur fun i j=> .bl (decide (i<j))):=BS fun _ _ _ _ _ _ _ q=>lt_int q
theorem k8:OpR X (compareOp .LtE) (ur fun i j=> .bl (decide (i≤j))):=BS fun _ _ _ _ _ _ _ q=>le_int q
theorem ud:OpR X (compareOp .In) (fun x y H Q=>∃i j,x= .str i∧y= .str j∧Q (.bl (!(Builtin.Str.occurrences j i 0 j.length 1).isEmpty)) H):=by
 intro pins s σ H x y v u Q I rx ry h
 obtain⟨i,j,rfl,rfl,q⟩:=h
 obtain⟨t,rfl⟩:=rx
 obtain⟨t',rfl⟩:=ry
 exact in_str (u5 I q rfl)
theorem nU:OpR X (compareOp .NotIn) (fun x y H Q=>∃i j,x= .str i∧y= .str j∧Q (.bl (!(!(Builtin.Str.occurrences j i 0 j.length 1).isEmpty))) H):=by
 intro pins s σ H x y v u Q I rx ry h
 obtain⟨i,j,rfl,rfl,q⟩:=h
 obtain⟨t,rfl⟩:=rx
 obtain⟨t',rfl⟩:=ry
 exact notIn_str (u5 I q rfl)
theorem OpR.or{f:Value→Value→Sem Value}{r r':R2}(h:OpR X f r)(h':OpR X f r'):OpR X f (fun x y H Q=>r x y H Q∨r' x y H Q):=by
 intro pins s σ H x y v u Q I rx ry q
 rcases q with q | q
 ·exact h pins s σ H x y v u Q I rx ry q
 ·exact h' pins s σ H x y v u Q I rx ry q
theorem vF(b:Expr){op:CmpOp}(h:op≠ .In:=by decide)(h2:op≠ .NotIn:=by decide):behindInMarks op b=false:=by
 have e1:(op==CmpOp.In)=false:=by cases op<;>first | rfl | exact absurd rfl h
 have e2:(op==CmpOp.NotIn)=false:=by cases op<;>first | rfl | exact absurd rfl h2
 cases b<;>simp[behindInMarks,e1,e2]
theorem yf{op:CmpOp}{r:R2}(ho:OpR X (compareOp op) r)(ha:PE X a ta)(hb:PE X b tb)(hm:behindInMarks op b=false):PE X (.Compare a [op] [b] pos) (Ck r ta tb):=by
 intro pins s σ H Q I h
 exact wpAny_Compare1 (y_ ha hb I h fun v u s2 x y H2 I2 rx ry q=>ho pins s2 σ H2 x y v u Q I2 rx ry q) hm
def y6(t:TE):TT:=fun σ H Q=>t σ H fun x H'=>∃k,x= .bl k∧Q k H'
theorem yq{op:CmpOp}{r:R2}(ho:OpR X (compareOp op) r)(ha:PE X a ta)(hb:PE X b tb)(hm:behindInMarks op b=false):PT X (.Compare a [op] [b] pos) (y6 (Ck r ta tb)):=by
 intro pins s σ H Q I h
 refine wpAny_isTrue_Compare1 (bV (ha pins s σ H _ I h) fun v s1 ⟨x,H1,I1,r1,q1⟩=>bV (hb pins s1 σ H1 _ I1 q1) fun u s2 ⟨y,H2,I2,r2,q2⟩=>
  bV (ho pins s2 σ H2 x y v u _ I2 r1 r2 q2) fun c s3 ⟨z,H3,I3,r3,k,e,q3⟩=>?_) hm
 subst e
 cases r3
 exact wpAny_truthy_bool ⟨H3,I3,q3⟩
def rL(r r':R2)(ta tb tc:TE):TE:=fun σ H Q=>ta σ H fun x H1=>tb σ H1 fun y H2=>r x y H2 fun z H3=>∃k,z= .bl k∧
 (if k=true then tc σ H3 fun w' H4=>r' y w' H4 Q else Q (.bl false) H3)
theorem vX{op rn:CmpOp}{r r':R2}(ho:OpR X (compareOp op) r)(ij:OpR X (compareOp rn) r')(ha:PE X a ta)(hb:PE X b tb)(hc:PE X c tc)
 (hm:lastMarks [op,rn] [b,c]=false:=by with_unfolding_all rfl):PE X (.Compare a [op,rn] [b,c] pos) (rL r r' ta tb tc):=by
 intro pins s σ H Q I h
 refine Compare_chain (bV (ha pins s σ H _ I h) fun v s1 ⟨x,H1,I1,r1,q1⟩=>chain_link (bV (hb pins s1 σ H1 _ I1 q1) fun u s2 ⟨y,H2,I2,r2,q2⟩=>
  bV (ho pins s2 σ H2 x y v u _ I2 r1 r2 q2) fun d s3 ⟨z,H3,I3,r3,k,e,q3⟩=>?_)) hm
 subst e
 cases r3
 refine wpAny_truthy_bool ?_
 cases k with
 |false=>exact ite_ff ⟨.bl false,H3,I3,rfl,q3⟩
 |true=>exact ite_tt (chain_last (bV (hc pins s3 σ H3 _ I3 q3) fun w' s4 ⟨z',H4,I4,r4,q4⟩=>ij pins s4 σ H4 y z' u w' Q I4 r2 r4 q4))
theorem wg{op rn:CmpOp}{r r':R2}(ho:OpR X (compareOp op) r)(ij:OpR X (compareOp rn) r')(ha:PE X a ta)(hb:PE X b tb)(hc:PE X c tc)
 (hm:lastMarks [op,rn] [b,c]=false:=by with_unfolding_all rfl):PT X (.Compare a [op,rn] [b,c] pos) (y6 (rL r r' ta tb tc)):=by
 intro pins s σ H Q I h
 refine isTrue_chain (bV (ha pins s σ H _ I h) fun v s1 ⟨x,H1,I1,r1,q1⟩=>test_link (bV (hb pins s1 σ H1 _ I1 q1) fun u s2 ⟨y,H2,I2,r2,q2⟩=>
  bV (ho pins s2 σ H2 x y v u _ I2 r1 r2 q2) fun d s3 ⟨z,H3,I3,r3,k,e,q3⟩=>?_)) hm
 subst e
 cases r3
 refine wpAny_truthy_bool ?_
 cases k with
 |false=>
  obtain⟨k',e',q'⟩:=q3
  cases e'
  exact ite_ff ⟨H3,I3,q'⟩
 |true=>
  refine ite_tt (test_last (bV (hc pins s3 σ H3 _ I3 q3) fun w' s4 ⟨z',H4,I4,r4,q4⟩=>bV (ij pins s4 σ H4 y z' u w' _ I4 r2 r4 q4) fun d' s5 ⟨z2,H5,I5,r5,k2,e2,q5⟩=>?_))
  subst e2
  cases r5
  exact wpAny_truthy_bool ⟨H5,I5,q5⟩
def A7(K:W.Frag)(x:V)(H:Hp)(k:Bool):Prop:=
 match x with
 | .non=>k=false
 | .bl b=>k=b
 | .int i=>k=(i !=0)
 | .str y=>y.length≤sizeLine∧k=((y.length:Int) !=0)
 | .byt y=>y.size≤sizeLine∧k=((y.size:Int) !=0)
 | .ref p=>(∃xs,SqL K H p xs∧k=!xs.isEmpty)∨(∃xs,SqT K H p xs∧k=!xs.isEmpty)∨∃aJ,H p=some (.dK aJ)∧k=!aJ.isEmpty
 |_=>False
theorem qT{κ:Type}{aJ:List (κ×V)}{vs:List (κ×Value)}(r:KV aJ vs):(!vs.isEmpty)=!aJ.isEmpty:=by
 cases r<;>rfl
theorem kN{xs:List V}{aG:List Value}(r:Vals xs aG):(!aG.toArray.isEmpty)=!xs.isEmpty:=by
 cases r<;>simp
theorem i5:(sizeLine:Nat)<2 ^ 63:=by rw[sizeLine_eq];decide
theorem AK:C6 X (fun x H Q=>∃k,A7 X.K x H k∧Q k H):=by
 intro pins s σ H x v Q I rx h
 obtain⟨k,e,q⟩:=h
 have hl:=i5
 have hs:sizeLine=16777216:=sizeLine_eq
 cases x with
 |non=>
  cases rx
  have e':k=false:=e
  subst e'
  exact truthy_none ⟨H,I,q⟩
 |bl b=>
  cases rx
  have e':k=b:=e
  subst e'
  exact wpAny_truthy_bool ⟨H,I,q⟩
 |int i=>
  obtain⟨t,rfl⟩:=rx
  have e':k=(i !=0):=e
  subst e'
  exact PySem.P.truthy_int ⟨H,I,q⟩
 |str y=>
  obtain⟨t,rfl⟩:=rx
  obtain⟨hy,e'⟩:y.length≤sizeLine∧k=((y.length:Int) !=0):=e
  subst e'
  exact PySem.P.truthy_str (by omega) ⟨H,I.tok _,q⟩
 |byt y=>
  obtain⟨t,rfl⟩:=rx
  obtain⟨hy,e'⟩:y.size≤sizeLine∧k=((y.size:Int) !=0):=e
  subst e'
  exact PySem.W.truthy_bytes (by omega) ⟨H,I.tok _,q⟩
 |ref p=>
  cases rx
  have e':(∃xs,SqL X.K H p xs∧k=!xs.isEmpty)∨(∃xs,SqT X.K H p xs∧k=!xs.isEmpty)∨∃aJ,H p=some (.dK aJ)∧k=!aJ.isEmpty:=e
  rcases e' with⟨xs,hx,e'⟩ | ⟨xs,hx,e'⟩ | ⟨aJ,hx,e'⟩
  ·subst e'
   obtain⟨aG,r,pl,hz⟩:=I.list hx
   have hlen:=r.length
   exact wpAny_truthy_list pl.isList (by simp only[List.size_toArray];omega) ⟨H,I.tok _,by rw[kN r];exact q⟩
  ·subst e'
   obtain⟨aG,r,pl,hz⟩:=I.tuple hx
   have hlen:=r.length
   exact truthy_tuple pl (by simp only[List.size_toArray];omega) ⟨H,I.tok _,by rw[kN r];exact q⟩
  ·subst e'
   obtain⟨hz,hS,vs,r,m⟩:aJ.length≤sizeLine∧(p==sysModules)=false∧∃vs,KV aJ vs∧s.heap.DictOf (bz X.prog X.w) p vs:=I.hok p _ hx
   have hlen:aJ.length=vs.length:=Paired.length r
   exact wpAny_truthy_dict hS m (by omega) ⟨H,I.tok _,by rw[qT r];exact q⟩
 |_=>exact(show False from e).elim
theorem wk(ha:PE X a ta)(he:∀whole,isTrue a X.env whole=(do let v←whole;standAt a.pos;holding [v] (truthy v))):
 PT X a (fun σ H Q=>ta σ H fun x H'=>∃k,A7 X.K x H' k∧Q k H'):=by
 intro pins s σ H Q I h
 exact isTrue_plain (bV (ha pins s σ H _ I h) fun v s1 ⟨x,H1,I1,r1,q1⟩=>AK pins s1 σ H1 x v Q I1 r1 q1) (he _)
theorem ro:OpR X (binaryOp .Add) (fun x y H Q=>∃i j,x= .str i∧y= .str j∧i.length+j.length≤sizeLine∧Q (.str (i++j)) H):=by
 intro pins s σ H x y v u Q I rx ry h
 obtain⟨i,j,rfl,rfl,hz,q⟩:=h
 obtain⟨t,rfl⟩:=rx
 obtain⟨t',rfl⟩:=ry
 exact add_str (fun t' tk=>⟨.str (i++j),H,I.tok _,⟨_,rfl⟩,q⟩) hz
theorem vals1{x:V}{us:List Value}(r:Vals [x] us):∃u,us=[u]∧RelV x u:=by
 cases r with
 |cons r1 r2=>cases r2;exact⟨_,rfl,r1⟩
theorem vals2{x y:V}{us:List Value}(r:Vals [x,y] us):∃u w',us=[u,w']∧RelV x u∧RelV y w':=by
 cases r with
 |cons r1 r2=>
  cases r2 with
  |cons r3 r4=>cases r4;exact⟨_,_,rfl,r1,r3⟩
theorem mn:CallR X (.type "int") (fun xs H Q=>(∃i,xs=[.int i]∧Q (.int i) H)∨∃k,xs=[.bl k]∧Q (.int (if k then 1 else 0)) H):=by
 intro pins s σ H xs us Q I r h
 rcases h with⟨i,rfl,q⟩ | ⟨k,rfl,q⟩
 ·obtain⟨u,rfl,t,rfl⟩:=vals1 r
  exact call_int_int ⟨.int i,H,I,⟨_,rfl⟩,q⟩
 ·obtain⟨u,rfl,r1⟩:=vals1 r
  cases r1
  exact call_int_bool ⟨.int (if k then 1 else 0),H,I.tok _,⟨_,rfl⟩,q⟩
end
structure ObjM (h:Heap) (x dx C:Addr) (mA:Str→Option Value):Prop where
 obj:h.get? x=some (PySem.W.instObj C dx)
 ns:h.Ns1 dx mA
 ne:dx≠x
theorem tX{h:Heap}{dx:Addr}{mA:Str→Option Value}(n:h.Ns1 dx mA):∃od,h.get? dx=some od∧∀name,PySem.W.lookIn name od=some (mA name):=by
 obtain⟨o,es,ep,ho,hd,hk,_,hm⟩:=n
 refine⟨o,ho,fun name=>?_⟩
 have e:=hm name
 unfold nsFind findBy at e
 rw[←Array.find?_toList] at e
 unfold PySem.W.lookIn
 rw[hd]
 dsimp only
 split
 ·rename_i y q
  rw[q] at e
  exact congrArg some e
 ·rename_i q
  rw[q] at e
  have a:es.toList.any (·.refKey)=false:=by
   rw[List.any_eq_false]
   intro y hy
   obtain⟨z,t,DJ⟩:=hk y (Array.mem_toList_iff.mp hy)
   simp[DictEntry.refKey,DJ]
  have a':¬es.toList.any (·.refKey)=true:=by rw[a];exact Bool.false_ne_true
  rw[if_neg a']
  exact congrArg some e
theorem ObjM.look{h:Heap}{x dx C:Addr}{mA:Str→Option Value}(I:ObjM h x dx C mA):∃od,PySem.W.InstAt h x (PySem.W.instObj C dx) C (some od)∧∀name,PySem.W.lookIn name od=some (mA name):=
 let ⟨od,ho,hl⟩:=tX I.ns
 ⟨od,⟨I.obj,rfl,rfl,ho⟩,hl⟩
section
variable{prog:Program}{w:World}{A:Around}{E:Value→Shared→Prop}{s:Shared}{K:W.Frag}{x dx C f:Addr}{mA:Str→Option Value}{name:Str}{v:Value}
end
section
variable{P:Program}{w:World}{H H':Hp}{h h':Heap}{a C dx:Addr}{fs Dj:List (Str×V)}
theorem xE(hok:HOk P w H h)(e:H a=some (.ins C dx fs)):∃mA,ObjM h a dx C mA∧(∀f,RelO (fs.lookup f) (mA f))∧PySem.Within mA (fs.map (·.1))∧fs.length≤1000∧H dx=some (.own a):=by
 obtain⟨d,z,ne,ob,mA,n,r,q⟩:=(show ObjOk P w H h a (.ins C dx fs) from hok a _ e)
 exact⟨mA,⟨ob,n,ne⟩,r,q,z,d⟩
end
structure Cls (K:W.Frag) (C:Addr):Prop where
 pg:PySem.W.plainGet K C Str.empty=true
 hd:PySem.W.hasDictIn K C=true
 po:PySem.W.plainOver K C=true
 sa:PySem.W.findIn K (.ref C) "__setattr__"=some (some (.builtin "object.__setattr__"))
theorem Cls.get{K:W.Frag}{C:Addr}(c:Cls K C)(f:Str):PySem.W.plainGet K C f=true:=c.pg
structure Con (K:W.Frag) (C:Addr) (f:Str) (v:V) (u:Value):Prop where
 at_:PySem.W.findIn K (.ref C) f=some (some u)
 rel:RelV v u
 get:PySem.W.specialIn K u "__get__"=some none
 cp:PySem.W.copiedNames.contains f=false
structure Meth (K:W.Frag) (C:Addr) (m:Str) (f:Addr):Prop where
 at_:PySem.W.findIn K (.ref C) m=some (some (.ref f))
 fn:PySem.W.isFn K (.ref f)=true
 kp:PySem.W.keepIn K (.ref f)=true
section
variable{X:Cx}{pins:List (Addr×Obj)}{σ:St}{H:Hp}{s:Shared}{a C dx:Addr}{fs:List (Str×V)}{f:Str}{v:V}{A:Around}{E:Value→Shared→Prop}
end
section
variable{X:Cx}{o e value:Expr}{f:Str}{pos pos' EH:Pos}{ta tv:TE}
end
section
variable{X:Cx}{pins:List (Addr×Obj)}{σ:St}{H:Hp}{s:Shared}{A:Around}{E:Value→Shared→Prop}{Q:Value→Shared→Prop}{c:Value}{b:Bool}
inductive TyOf (K:W.Frag) (H:Hp):V→Value→Prop where
 |non:TyOf K H .non (.type "NoneType")
 |bl (x:Bool):TyOf K H (.bl x) (.type "bool")
 |int (i:Int):TyOf K H (.int i) (.type "int")
 |str (x:Str):TyOf K H (.str x) (.type "str")
 |flt (x:UInt64):TyOf K H (.flt x) (.type "float")
 |lst {a:Addr}{xs:List V}(e:H a=some (.lst xs)):TyOf K H (.ref a) (.type "list")
 |frz {a:Addr}{o:Obj}{xs:List V}(e:H a=some (.frz o (.lst xs))):TyOf K H (.ref a) (.type "list")
 |tup {a:Addr}{xs:List V}(e:H a=some (.tup xs)):TyOf K H (.ref a) (.type "tuple")
 |dK {a:Addr}{aJ:List (Key×V)}(e:H a=some (.dK aJ)):TyOf K H (.ref a) (.type "dict")
 |dT {a:Addr}{aJ:List (List Key×V)}(e:H a=some (.dT aJ)):TyOf K H (.ref a) (.type "dict")
 |ins {a C dx:Addr}{fs:List (Str×V)}(e:H a=some (.ins C dx fs)) (cl:Cls K C) (ha:PySem.W.findIn K (.ref C) "__class__"=some (some (.builtin "object.__class__")))
   (hn:PySem.W.specialIn K (.builtin "object.__class__") "__get__"=some (some (.builtin "getset_descriptor.__get__"))) (Ff:PySem.W.takesIn K (.builtin "object.__class__")=some true)
   (hm:PySem.W.mroIn K C (.type "object")=some true):TyOf K H (.ref a) (.ref C)
theorem tQ{x:V}{u t:Value}(I:Inv X pins σ H s)(rx:RelV x u)(ty:TyOf X.K H x t)(e:PySem.W.kitOne X.K t c=some b)(h:∀tk,Q (.bool b) {s with toks:=tk}):
 wpAny (model X.prog X.w) A (call (.builtin "isinstance") [u,c]) Q E s:=by
 cases ty with
 |non=>cases (show u=Value.none from rx);exact PySem.W.kia_one PySem.W.kitx_none I.kIn True.intro e (fun z=>nomatch z) h
 |bl y=>cases (show u=Value.bool y from rx);exact PySem.W.kia_one PySem.W.kitx_bool I.kIn True.intro e (fun z=>nomatch z) h
 |int i=>obtain⟨t,q⟩:=(show∃t,u=Value.int i t from rx);cases q;exact PySem.W.kia_one PySem.W.kitx_int I.kIn True.intro e (fun z=>nomatch z) h
 |str y=>obtain⟨t,q⟩:=(show∃t,u=Value.str y t from rx);cases q;exact PySem.W.kia_one PySem.W.kitx_str I.kIn True.intro e (fun z=>nomatch z) h
 |flt y=>obtain⟨t,q⟩:=(show∃t,u=Value.float y t from rx);cases q;exact PySem.W.kia_one PySem.W.kitx_float I.kIn True.intro e (fun z=>nomatch z) h
 | @lst a xs ea=>
   cases (show u=Value.ref a from rx)
   obtain⟨_,_,n,_,h1⟩:=(show ObjOk X.prog X.w H s.heap a (.lst xs) from I.hok a _ ea)
   exact PySem.W.kia_one PySem.W.kitx_list I.kIn ⟨_,h1,rfl⟩ e (fun z=>nomatch z) h
 | @frz a ob xs ea=>
   cases (show u=Value.ref a from rx)
   obtain⟨_,_,_,n,_,h1⟩:=(show ObjOk X.prog X.w H s.heap a (.frz ob (.lst xs)) from I.hok a _ ea)
   exact PySem.W.kia_one PySem.W.kitx_list I.kIn ⟨_,h1,rfl⟩ e (fun z=>nomatch z) h
 | @tup a xs ea=>
   cases (show u=Value.ref a from rx)
   obtain⟨_,_,_,p⟩:=(show ObjOk X.prog X.w H s.heap a (.tup xs) from I.hok a _ ea)
   obtain⟨o,h1,h2,_⟩:=p
   exact PySem.W.kia_one PySem.W.kitx_tuple I.kIn ⟨o,h1,h2⟩ e (fun z=>nomatch z) h
 | @dK a aJ ea=>
   cases (show u=Value.ref a from rx)
   obtain⟨_,_,vs,_,p⟩:=(show ObjOk X.prog X.w H s.heap a (.dK aJ) from I.hok a _ ea)
   obtain⟨o,es,ep,h1,h2,_⟩:=p
   exact PySem.W.kia_one PySem.W.kitx_dict I.kIn ⟨o,h1,h2.1⟩ e (fun z=>nomatch z) h
 | @dT a aJ ea=>
   cases (show u=Value.ref a from rx)
   obtain⟨_,_,xs,_,o,es,ep,h1,h2,_⟩:=(show ObjOk X.prog X.w H s.heap a (.dT aJ) from I.hok a _ ea)
   exact PySem.W.kia_one PySem.W.kitx_dict I.kIn ⟨o,h1,h2.1⟩ e (fun z=>nomatch z) h
 | @ins a C dx fs ea cl ha hn Ff hm=>
   cases (show u=Value.ref a from rx)
   obtain⟨mA,O,_⟩:=xE I.hok ea
   obtain⟨od,J,_⟩:=O.look
   exact PySem.W.kia_one (PySem.W.kitx_own (cl.get _) cl.hd ha hn Ff hm) I.kIn J e (fun z=>nomatch z) h
end
structure Room (k:Nat) (A:Around):Prop where
 hd:A.handled=none
 dp:A.depth+3*k+5<recursionLimit
 un:A.units+16*k+200<cLine
theorem Room.mono{j k:Nat}{A:Around}(r:Room k A)(h:j≤k):Room j A:=⟨r.hd,by have:=r.dp;omega,by have:=r.un;omega⟩
theorem Room.deeper{k:Nat}{A:Around}(r:Room (k+1) A)(env:Env):Room k (A.deeper env):=
 ⟨r.hd,by have:=r.dp;show A.depth+1+3*k+5<_;omega,by have:=r.un;show A.units+3+16*k+200<_;omega⟩
theorem Room.depth{k:Nat}{A:Around}(r:Room k A):A.depth<recursionLimit:=by have:=r.dp;omega
theorem Room.units{k:Nat}{A:Around}(r:Room k A):A.units+64<cLine:=by have:=r.un;omega
def AJ:TA:=fun _ H Q=>Q [] H
def wO(ta:TE)(tr:TA):TA:=fun σ H Q=>ta σ H fun x H1=>tr σ H1 fun xs H2=>Q (x::xs) H2
section
variable{X:Cx}{e:Expr}{es:List Expr}{te:TE}{t:TA}{pos:Pos}
theorem nW:PA X [] AJ:=fun _ _ _ _ H Q I h=>Calls.spliced_nil ⟨[],H,I, .nil,h⟩
theorem nV(ha:PE X e te)(hr:PA X es t)(hs:starEach (e::es) X.env=(false,eval e X.env)::starEach es X.env:=by rfl):PA X (e::es) (wO te t):=by
 intro pos pins s σ H Q I h
 rw[hs]
 show wpAny _ _ (spliced ((false,eval e X.env)::backTo pos (starEach es X.env))) _ _ s
 refine Calls.spliced_cons (bV (ha pins s σ H _ I h) fun u s1 ⟨x,H1,I1,r1,q1⟩=>?_)
 exact bV (hr pos pins s1 σ H1 _ I1 q1) fun us s2 ⟨xs,H2,I2,r2,q2⟩=>⟨x::xs,H2,I2, .cons r1 r2,q2⟩
def EF(t:TA):TE:=fun σ H Q=>t σ H fun xs H1=>xs.length≤sizeLine∧∀p,H1 p=none→Q (.ref p) (upd H1 p (.tup xs))
def EB(t:TA):TE:=fun σ H Q=>t σ H fun xs H1=>xs.length≤sizeLine∧∀p,H1 p=none→Q (.ref p) (upd H1 p (.lst xs))
theorem Am{x1}(h:PA X es t):PE X (.Tuple es x1 pos) (EF t):=by
 intro pins s σ H Q I hq
 refine wpAny_Tuple_spliced (bV (h pos pins s σ H _ I hq) fun us s1 ⟨xs,H1,I1,r,z,q⟩=>⟨by rw[←r.length];exact z,?_⟩)
 have hf:H1 s1.heap.objs.size=none:=I1.hok.fresh (Nat.le_refl _)
 refine⟨.ref s1.heap.objs.size,upd H1 s1.heap.objs.size (.tup xs),I1.laid (t':=s1.toks) (fun b u e=>Heap.get?_push_of_some _ e) (Nat.le_refl _) ?_,rfl,q _ hf⟩
 exact⟨z,us,r,⟨_,Heap.get?_push_size _ rfl,rfl,_,rfl⟩⟩
theorem v9(h:PA X es t):PE X (.List es pos) (EB t):=by
 intro pins s σ H Q I hq
 refine wpAny_List_spliced (bV (h pos pins s σ H _ I hq) fun us s1 ⟨xs,H1,I1,r,z,q⟩=>⟨by rw[←r.length];exact z,?_⟩)
 have hf:H1 s1.heap.objs.size=none:=I1.hok.fresh (Nat.le_refl _)
 refine⟨.ref s1.heap.objs.size,upd H1 s1.heap.objs.size (.lst xs),I1.laid (t':=s1.toks) (fun b u e=>Heap.get?_push_of_some _ e) (Nat.le_refl _) ?_,rfl,q _ hf⟩
 exact⟨z,us,0,r,Heap.get?_push_size _ rfl⟩
end
abbrev Sp:=List V→Hp→VK→XK→Prop
abbrev qw:=List Env→Hp→Shared→XK→Value→Shared→Prop
structure Env0 (P:Program) (w:World) (K:W.Frag) (mg:Str→Option Value) (base:Heap) (A:Around) (outer:List Env) (s:Shared) (H:Hp):Prop where
 frames:A.frames=some outer
 mod:Mod K mg base
 bs:∀b o,base.get? b=some o→s.heap.get? b=some o∧H b=none
 bsz:base.objs.size≤s.heap.objs.size
 funs:s.heap.FunFrames base outer
 frf:∀b∈eB outer,H b=none
 hok:HOk P w H s.heap
 bare:AllBare s.gens
def CE(outer:List Env)(P:Program)(w:World)(H:Hp)(s:Shared)(Q:VK)(u:Value)(s':Shared):Prop:=
 ∃v H',s'.os=s.os∧AllBare s'.gens∧Un (eB outer) [] H H' s.heap s'.heap∧HOk P w H' s'.heap∧RelV v u∧Q v H'
def CR(CX:qw)(outer:List Env)(P:Program)(w:World)(H:Hp)(s:Shared)(Q:VK)(E:XK)(r:Result)(s':Shared):Prop:=
 match r with
 | .ok (.ret u)=>CE outer P w H s Q u s'
 | .ok _=>False
 | .error e=>CX outer H s E e s'
structure FnOk (P:Program) (w:World) (K:W.Frag) (mg:Str→Option Value) (base:Heap) (CX:qw) (k:Nat) (f:Addr) (fd:FuncData) (ps:List Str) (sp:Sp):Prop where
 len:∀vs H Q E,sp vs H Q E→vs.length=ps.length
 run:∀(A:Around) (outer:List Env) (s:Shared) (H:Hp) (args:Args) (us:List Value) (vs:List V) (Q:VK) (E:XK),Room k A→Env0 P w K mg base A outer s H→BindsTo s fd args (ps.zip us)→Vals vs us→sp vs H Q E→
  codeAny (model P w) A (.call (.ref f) args) (CR CX outer P w H s Q E) s
theorem FnOk.mono{P:Program}{w:World}{K:W.Frag}{mg:Str→Option Value}{base:Heap}{CX:qw}{j k:Nat}{f:Addr}{fd:FuncData}{ps:List Str}{sp:Sp}(F:FnOk P w K mg base CX j f fd ps sp)(h:j≤k):
 FnOk P w K mg base CX k f fd ps sp:=⟨F.len,fun A outer s H args us vs Q E hr=>F.run A outer s H args us vs Q E (hr.mono h)⟩
section
variable{X:Cx}{pins:List (Addr×Obj)}{σ:St}{H:Hp}{s s':Shared}
theorem Inv.env0(I:Inv X pins σ H s):Env0 X.prog X.w X.K X.mg X.base X.A X.stack s H:=
 ⟨I.ok.frames,I.ok.mod,I.bs,Nat.le_trans I.ok.bsz I.sz,I.stack,I.stkFree,I.hok,I.bare⟩
theorem Inv.after{Q:VK}{u:Value}(I:Inv X pins σ H s)(h:CE X.stack X.prog X.w H s Q u s'):EP X pins σ Q u s':=by
 obtain⟨v,H',os,bare,un,hok,r,q⟩:=h
 obtain⟨hh,g,d,t,GX⟩:=s'
 obtain rfl:GX=s.os:=os
 exact⟨v,H',I.call (h':=hh) (g':=g) (d':=d) (t':=t) (ch:=[]) un hok bare (fun b z=>absurd z (by simp)),r,q⟩
end
def Cg(sp:Sp)(yL:List V)(E:XK)(t:TA):TE:=fun σ H Q=>t σ H fun vs H1=>sp (vs++yL) H1 Q E
def Binds(K:W.Frag)(fd:FuncData)(ps:List Str)(ds:List Value):Prop:=
 ∀(s:Shared) (us:List Value),K.In s.heap→(us++ds).length=ps.length→BindsTo s fd ⟨us,[]⟩ (ps.zip (us++ds))
theorem Binds.all{K:W.Frag}{fd:FuncData}{ps:List Str}(h:∀us:List Value,us.length=ps.length→bindArgs fd ⟨us,[]⟩=pure (ps.zip us)):Binds K fd ps []:=fun s us _ hl=>by
 rw[List.append_nil] at hl⊢
 exact .of_eq (h us hl)
def Passes(CX:qw)(X:Cx)(E:XK):Prop:=∀(pins:List (Addr×Obj)) (σ:St) (H:Hp) (s:Shared) (e:Value) (s':Shared),Inv X pins σ H s→CX X.stack H s E e s'→X.xe e s'
section
variable{X:Cx}{CX:qw}{k:Nat}{f C:Addr}{fd:FuncData}{ps:List Str}{sp:Sp}{yL:List V}{ds:List Value}{E:XK}{x m:Str}{p pos apos:Pos}{e o:Expr}{es:List Expr}{ta:TE}{t:TA}
theorem AA{pins:List (Addr×Obj)}{σ:St}{H:Hp}{s:Shared}{Q:VK}{us:List Value}{vs:List V}(F:FnOk X.prog X.w X.K X.mg X.base CX k f fd ps sp)(hr:Room k X.A)(hb:Binds X.K fd ps ds)(hd:Vals yL ds)(hx:Passes CX X E)
 (I:Inv X pins σ H s)(r:Vals vs us)(h:sp (vs++yL) H Q E):wpAny (model X.prog X.w) X.A (call (.ref f) us) (EP X pins σ Q) X.xe s:=by
 have r2:Vals (vs++yL) (us++ds):=r.append hd
 have hl:(us++ds).length=ps.length:=by rw[←r2.length];exact F.len _ _ _ _ h
 refine wpAny_call (codeAny_mono (F.run X.A X.stack s H ⟨us,[]⟩ (us++ds) (vs++yL) Q E hr I.env0 (hb s us I.kIn hl) r2 h) fun r s' hq=>?_)
 cases r with
 |error e=>exact hx pins σ H s e s' I hq
 |ok fl=>
  cases fl with
  |ret u=>exact I.after hq
  |next=>exact False.elim hq
  |brk=>exact False.elim hq
  |cont=>exact False.elim hq
theorem ye(F:FnOk X.prog X.w X.K X.mg X.base CX k f fd ps sp)(hr:Room k X.A)(hg:Gl X x)(hm:X.mg x=some (.ref f))(hk:PySem.W.keepIn X.K (.ref f)=true)(hb:Binds X.K fd ps ds)(hd:Vals yL ds)(hx:Passes CX X E)
 (ha:PA X (e::es) t)(ig:(x==("__debug__":Str))=false:=by decide)(he:starEach (e::es) X.env=(false,eval e X.env)::starEach es X.env:=by rfl)(ke:(backTo pos (starEach es X.env)).any (·.1)=false:=by rfl):
 PE X (.Call (.Name x p) (e::es) [] pos) (Cg sp yL E t):=by
 intro pins s σ H Q I h
 refine wpAny_Call_Name_kw (iq I hg hm ?_ ig)
 refine PySem.W.callWith_K (h₀:=X.base) I.ok.mod.kin hk (bV (ha pos pins s σ H _ I h) fun us s1 ⟨vs,H1,I1,r,q⟩=>⟨I1.kIn,?_⟩) he ke
 exact AA F hr hb hd hx I1 r q
structure Mk (K:W.Frag) (C f:Addr):Prop where
 makes:PySem.W.makesIn K C=true
 init:PySem.W.findIn K (.ref C) "__init__"=some (some (.ref f))
 fn:PySem.W.isFn K (.ref f)=true
 kp:PySem.W.keepIn K (.ref C)=true
end
section
variable{X:Cx}{CX:qw}{k:Nat}{f C:Addr}{fd:FuncData}{ps ks:List Str}{sp:Sp}{E:XK}{x m:Str}{p pos apos GU:Pos}{e o:Expr}{es:List Expr}{Hw:List Keyword}{te ta:TE}{t tk:TA}{nm:Option Str}
structure KBinds (K:W.Frag) (fd:FuncData) (ps ks:List Str) (g:List Value→List Value→List Value) (gV:List V→List V→List V):Prop where
 to:∀(s:Shared) (us ws:List Value),K.In s.heap→(g us ws).length=ps.length→BindsTo s fd ⟨us,ks.zip ws⟩ (ps.zip (g us ws))
 rel:∀{vs:List V}{us:List Value}{zs:List V}{ws:List Value},Vals vs us→Vals zs ws→Vals (gV vs zs) (g us ws)
variable{g:List Value→List Value→List Value}{gV:List V→List V→List V}
end
structure FnScope (N P:List Str) (sc:Scope):Prop where
 kind:sc.kind= .function
 co:sc.isCoroutine=false
 gen:sc.isGenerator=false
 nd:N.Nodup
 pre:N.take P.length=P
 par:∀x∈P,sc.names.lookup x=some .local∨sc.names.lookup x=some .cell
 nofree:∀y∈sc.names,y.2≠ .free
theorem ml{kindOf:Str→Option NameKind}{x:Str}:∀{binds:List (Str×Value)}{m:Str→Option Value},(∀v,(x,v)∉binds)→bindL kindOf binds m x=m x
 |[],_,_=>rfl
 |(n,v)::r,m,h=>by
  unfold bindL
  rw[ml fun w hw=>h w (List.mem_cons_of_mem _ hw)]
  split
  ·have:x≠n:=by rintro rfl;exact h v List.mem_cons_self
   simp[this]
  ·rfl
theorem mi{kindOf:Str→Option NameKind}{x:Str}:∀{binds:List (Str×Value)}{m:Str→Option Value},(∀v,(x,v)∉binds)→bindC kindOf binds m x=m x
 |[],_,_=>rfl
 |(n,v)::r,m,h=>by
  unfold bindC
  rw[mi fun w hw=>h w (List.mem_cons_of_mem _ hw)]
  split
  ·rfl
  ·have:x≠n:=by rintro rfl;exact h v List.mem_cons_self
   simp[this]
theorem mj{kindOf:Str→Option NameKind}{x:Str}{v:Value}:∀{P:List Str}{vs:List Value}{i:Nat}{m:Str→Option Value},P.Nodup→P[i]? =some x→vs[i]? =some v→kindOf x=some .local→
 bindL kindOf (P.zip vs) m x=some v
 |[],_,_,_,_,h,_,_=>by simp at h
 |_::_,[],_,_,_,_,h,_=>by simp at h
 |p::P,w::vs,0,m,nd,h1,h2,hk=>by
  simp at h1 h2;subst h1;subst h2
  show bindL kindOf ((p,w)::P.zip vs) m p=_
  unfold bindL
  rw[ml fun v hv=>(List.nodup_cons.mp nd).1 (List.of_mem_zip hv).1,if_pos hk]
  simp
 |p::P,w::vs,i+1,m,nd,h1,h2,hk=>by
  show bindL kindOf ((p,w)::P.zip vs) m x=_
  unfold bindL
  exact mj (i:=i) (List.nodup_cons.mp nd).2 (by simpa using h1) (by simpa using h2) hk
theorem mh{kindOf:Str→Option NameKind}{x:Str}{v:Value}:∀{P:List Str}{vs:List Value}{i:Nat}{m:Str→Option Value},P.Nodup→P[i]? =some x→vs[i]? =some v→kindOf x≠some .local→
 bindC kindOf (P.zip vs) m x=some v
 |[],_,_,_,_,h,_,_=>by simp at h
 |_::_,[],_,_,_,_,h,_=>by simp at h
 |p::P,w::vs,0,m,nd,h1,h2,hk=>by
  simp at h1 h2;subst h1;subst h2
  show bindC kindOf ((p,w)::P.zip vs) m p=_
  unfold bindC
  rw[mi fun v hv=>(List.nodup_cons.mp nd).1 (List.of_mem_zip hv).1,if_neg hk]
  simp
 |p::P,w::vs,i+1,m,nd,h1,h2,hk=>by
  show bindC kindOf ((p,w)::P.zip vs) m x=_
  unfold bindC
  exact mh (i:=i) (List.nodup_cons.mp nd).2 (by simpa using h1) (by simpa using h2) hk
def start(N:List Str)(vs:List V):St:=vs.map some++List.replicate (N.length - vs.length) none
def aL(CX:qw)(P:Program)(w:World)(K:W.Frag)(mg:Str→Option Value)(base:Heap)(N:List Str)(qual:Str)(scope:Scope)(f:Addr)(cd:Value)(A:Around)(outer:List Env)(s:Shared)(H:Hp)(E:XK):Cx where
 prog:=P
 w:=w
 K:=K
 mg:=mg
 base:=base
 A:=A.deeper (envOfC qual scope s.heap.objs.size f cd)
 N:=N
 s₀:=s
 H₀:=H
 env:=envOfC qual scope s.heap.objs.size f cd
 outer:=outer
 stack:=envOfC qual scope s.heap.objs.size f cd::outer
 ex:=[]
 calm:=true
 fn:=fun _=>true
 pn:=[]
 xe:=fun e s'=>wpAny (model P w) (A.deeper (envOfC qual scope s.heap.objs.size f cd)) (leaving (envOfC qual scope s.heap.objs.size f cd) e) (fun _ Er=>CX outer H s E e Er) (fun e' Er=>CX outer H s E e' Er) s'
theorem oW{sc:Scope}{n:Nat}{x:Str}(h:sc.names.lookup x=some .cell):∃c,(cellsFrom n sc.names []).lookup x=some c:=by
 have q:=PySem.W.cellsFrom_some sc.names n [] (.inl h)
 exact Option.isSome_iff_exists.mp q
theorem mD{CX:qw}{P:Program}{w:World}{K:W.Frag}{mg:Str→Option Value}{base:Heap}{N ps:List Str}{qual:Str}{scope:Scope}{f:Addr}{cd:Value}{A:Around}{outer:List Env}{s s1:Shared}{H:Hp}{E:XK}{us:List Value}{vs:List V}
 (S:FnScope N ps scope)(hd:A.handled=none)(e0:Env0 P w K mg base A outer s H)(hl:vs.length=ps.length)(r:Vals vs us)
 (x:InCallC s s.heap.objs.size (bindL (envOfC qual scope s.heap.objs.size f cd).kindOf (ps.zip us) fun _=>none) (cellsFrom (s.heap.objs.size+1) scope.names []) (bindC (envOfC qual scope s.heap.objs.size f cd).kindOf (ps.zip us) fun _=>none) s1):
 Inv (aL CX P w K mg base N qual scope f cd A outer s H E) [] (start N vs) H s1:=by
 have ke:ps.length≤N.length:=by have:=congrArg List.length S.pre;rw[List.length_take] at this;omega
 obtain⟨h1,tk,rfl,hk⟩:=x.done
 have BQ:∀b:Addr,b∉(aL CX P w K mg base N qual scope f cd A outer s H E).ex:=fun b z=>absurd (show b∈([]:List Addr) from z) (by simp)
 refine⟨⟨e0.mod,S.kind,rfl,rfl,Nat.le_refl _,fun y z c h1 h2=>?_,fun y hy=>?_,fun y c _ h=>?_,fun _=>hd,Around.frames_deeper e0.frames, .inr ⟨rfl,rfl⟩,fun b z=>absurd z (BQ b),e0.bs,e0.bsz,fun b _ _=>BQ b,fun b z=>absurd z (BQ b),e0.funs,e0.frf⟩,
  rfl,e0.bare,Un.kept hk,⟨_,x.toInCall.ns,fun i y v h1 h2 h3=>?_⟩,fun y c h=>⟨_,x.cell y c h⟩,e0.hok.fresh (Nat.le_refl _),fun y c h=>?_,fun p hp=>absurd (show p∈([]:List (Addr×Obj)) from hp) (by simp),e0.hok.kept hk,?_⟩
 ·exact name_of_addr x.apart (PySem.mem_of_lookup h1) (PySem.mem_of_lookup h2)
 ·have hy:scope.names.lookup y=some .cell∨scope.names.lookup y=some .free:=hy
  rcases hy with hy | hy
  ·exact oW hy
  ·exact absurd rfl (S.nofree _ (PySem.mem_of_lookup hy))
 ·exact Nat.le_of_lt (x.above y c (PySem.mem_of_lookup h))
 ·have hi:i<vs.length:=by
   unfold start at h2
   by_cases hi:i<vs.length
   ·exact hi
   ·rw[List.getElem?_append_right (by simpa using hi)] at h2
    rw[List.getElem?_replicate] at h2
    split at h2<;>cases h2
  have ha:vs[i]? =some v:=by
   unfold start at h2
   rw[List.getElem?_append_left (by simpa using hi),List.getElem?_map] at h2
   cases e:vs[i]? with
   |none=>rw[e] at h2;cases h2
   |some a=>rw[e] at h2;cases h2;rfl
  obtain⟨u,hu,rv⟩:=r.get ha
  have hp:ps[i]? =some y:=by
   rw[←S.pre,List.getElem?_take_of_lt (by omega)];exact h1
  have Fm:ps.Nodup:=by rw[←S.pre];exact S.nd.sublist (List.take_sublist _ _)
  refine⟨u,rv,?_⟩
  rcases S.par y (List.mem_of_getElem? hp) with k | k
  ·exact .inl ⟨k,mj Fm hp hu k⟩
  ·obtain⟨c,e⟩:=oW (n:=s.heap.objs.size+1) k
   refine .inr ⟨.inl k,c,e,?_⟩
   have q:=x.cell y c e
   rw[mh Fm hp hu (by show scope.names.lookup y≠_;rw[k];decide)] at q
   exact q
 ·exact e0.hok.fresh (Nat.le_of_lt (x.above y c (PySem.mem_of_lookup h)))
 ·unfold start
  show _=N.length
  rw[List.length_append,List.length_map,List.length_replicate]
  omega
theorem Bp{CX:qw}{P:Program}{w:World}{K:W.Frag}{mg:Str→Option Value}{base:Heap}{k:Nat}{f:Addr}{name qual:Str}{params:Arguments}{body:List Stmt}{scope:Scope}{dV kV doc pm a5 ct oc:Value}{an od:Option Addr}
 {vO:Array (Option Value)}{N ps:List Str}{sp:Sp}(lk:K.lookup f=some ⟨oc,od, .func (PySem.W.fnOf name qual params body scope dV kV doc pm an a5 ct),vO⟩)(qr:PySem.W.codeIn K a5 qual=true)(S:FnScope N ps scope)
 (len:∀vs H Q E,sp vs H Q E→vs.length=ps.length)
 (fO:∀(A:Around) (outer:List Env) (s:Shared) (H:Hp) (vs:List V) (Q:VK) (E:XK),Room k (A.deeper (envOfC qual scope s.heap.objs.size f a5))→sp vs H Q E→
  ∃t,PSs (aL CX P w K mg base N qual scope f a5 A outer s H E) body t∧t {nx:=fun _ H'=>Q .non H',rt:=Q} (start N vs) H):
 FnOk P w K mg base CX (k+1) f (PySem.W.fnOf name qual params body scope dV kV doc pm an a5 ct) ps sp:=by
 refine⟨len,fun A outer s H args us vs Q E hr e0 hb r qu=>?_⟩
 have hl:=len _ _ _ _ qu
 have KX:K.In s.heap:=e0.mod.kin.keeps fun b o e=>(e0.bs b o e).1
 have lim:s.heap.NoLimit:=e0.mod.nolimit.keeps fun b o e=>(e0.bs b o e).1
 have vf:∀y∈ps.zip us,scope.names.lookup y.1=some .local∨(scope.names.lookup y.1=some .cell∧((cellsFrom (s.heap.objs.size+1) scope.names []).lookup y.1).isSome=true):=fun⟨n,v⟩ hy=>by
  rcases S.par n (List.of_mem_zip hy).1 with q | q
  ·exact .inl q
  ·exact .inr ⟨q,PySem.W.cellsFrom_some _ _ _ (.inl q)⟩
 refine codeAny_call_function hr.depth (KX _ _ lk) rfl S.co S.gen rfl (PySem.W.codeRec_of KX qr) (hb _ _ _ _ ?_)
 refine wpAny_newFunctionEnv_cells S.kind vf fun env he s1 x=>?_
 subst he
 refine⟨lim.keeps x.toInCall.keep,codeAny_func ?_⟩
 obtain⟨t,ht,hq⟩:=fO A outer s H vs Q E (hr.deeper _) qu
 have I:Inv (aL CX P w K mg base N qual scope f a5 A outer s H E) [] (start N vs) H s1:=mD S hr.hd e0 hl r x
 refine wpAny_mono (ht [] s1 (start N vs) H _ I hq) (fun fl s' hs=>?_) fun e s' hs=>hs
 have fin:∀{σ':St}{H':Hp}{v:V}{u:Value},Inv (aL CX P w K mg base N qual scope f a5 A outer s H E) [] σ' H' s'→RelV v u→Q v H'→CE outer P w H s Q u s':=
  fun {σ' H' v u} J rv q=>⟨v,H',J.os,J.bare,J.base,J.hok,rv,q⟩
 cases fl with
 |ret u=>
  obtain⟨v,σ',H',J,rv,q⟩:=hs
  exact fin J rv q
 |next=>
  obtain⟨σ',H',J,q⟩:=hs
  exact fin (v:=V.non) (u:=Value.none) J rfl q
 |brk=>
  obtain⟨_,_,_,q⟩:=hs
  exact False.elim q
 |cont=>
  obtain⟨_,_,_,q⟩:=hs
  exact False.elim q
section
variable{X:Cx}{x:Str}{p pos:Pos}{e:Expr}{es:List Expr}{t:TA}{id T:String}{r:List V→Hp→VK→Prop}
def Ew(r:List V→Hp→VK→Prop)(t:TA):TE:=fun σ H Q=>t σ H fun vs H1=>r vs H1 Q
theorem vW(hc:CallR X (.builtin id) r)(hg:Gl X x)(hm:X.mg x=none)(hv:bootBuiltins x=some (.builtin id))(ha:PA X (e::es) t)(hn:x≠"__name__":=by decide)(ig:(x==("__debug__":Str))=false:=by decide)
 (he:starEach (e::es) X.env=(false,eval e X.env)::starEach es X.env:=by rfl)(ke:(backTo pos (starEach es X.env)).any (·.1)=false:=by rfl):PE X (.Call (.Name x p) (e::es) [] pos) (Ew r t):=by
 intro pins s σ H Q I h
 refine wpAny_Call_Name_kw (nL I hg hm hv ?_ hn ig)
 exact PyProof.Rows.callWith_builtin1 (bV (ha pos pins s σ H _ I h) fun us s1 ⟨vs,H1,I1,r1,q1⟩=>hc pins s1 σ H1 vs us Q I1 r1 q1) he ke
theorem um(hc:CallR X (.type T) r)(hg:Gl X x)(hm:X.mg x=none)(hv:bootBuiltins x=some (.type T))(ha:PA X (e::es) t)(hn:x≠"__name__":=by decide)(ig:(x==("__debug__":Str))=false:=by decide)
 (he:starEach (e::es) X.env=(false,eval e X.env)::starEach es X.env:=by rfl)(ke:(backTo pos (starEach es X.env)).any (·.1)=false:=by rfl):PE X (.Call (.Name x p) (e::es) [] pos) (Ew r t):=by
 intro pins s σ H Q I h
 refine wpAny_Call_Name_kw (nL I hg hm hv ?_ hn ig)
 exact PyProof.Rows.callWith_type1 (bV (ha pos pins s σ H _ I h) fun us s1 ⟨vs,H1,I1,r1,q1⟩=>hc pins s1 σ H1 vs us Q I1 r1 q1) he ke
end
end L2
namespace HT
open PySem PyProof.Rows
section
open PySem.SeqAt
open PySem.AutoSeq1 (wpAny_loadPart')
open PySem.MeetsSeq PySem.MeetsSeq2 PySem.MeetsSeq3
end
section
variable{prog:Program}{w:World}{A:Around}{E:Value→Shared→Prop}{s:Shared}
theorem cat_tup{t b:Addr}{vs ws:List Value}{Q:Value→Shared→Prop}(ht:IsTup s.heap t vs.toArray)(hb:IsTup s.heap b ws.toArray)(hv:vs≠[])
 (h1:ws=[]→Q (.ref t) s)(h2:ws≠[]→Q (.ref s.heap.objs.size) {s with heap:=s.heap.push {cls:= .type "tuple",data:= .seq (vs++ws).toArray} })
 (hsz:vs.length+ws.length≤sizeLine):wpAny (model prog w) A (binaryOp .Add (.ref t) (.ref b)) Q E s:=by
 obtain⟨⟨cls,dd,data,sl⟩,ho,hc,n,hd⟩:=id ht
 obtain⟨⟨cls2,AO,data2,CQ⟩,zF,zx,n2,hd2⟩:=id hb
 simp only at hc hd zx hd2
 subst hc hd zx hd2
 have e:vs.toArray++ws.toArray=(vs++ws).toArray:=by simp
 by_cases hw:ws=[]
 ·exact concat_meets ⟨_,ho,rfl⟩ ⟨_,zF,rfl⟩ noFill_tuple_add seq_tuple_add PySem.F.slot_tuple_add PySem.F.entry_tuple_add (PySem.F.args_tuple_add_2 _ _)
   (tuple_addW1 t b vs.toArray ws.toArray n n2 dd AO sl CQ (by simpa using hv) (by simp[hw])) ⟨ho,zF,h1 hw⟩
 ·refine concat_meets ⟨_,ho,rfl⟩ ⟨_,zF,rfl⟩ noFill_tuple_add seq_tuple_add PySem.F.slot_tuple_add PySem.F.entry_tuple_add (PySem.F.args_tuple_add_2 _ _)
   (tuple_addW2 t b vs.toArray ws.toArray n n2 dd AO sl CQ (by simpa using hv) (by simpa using hw) (by rw[List.size_toArray,List.size_toArray];exact hsz)) ⟨ho,zF,?_⟩
  rw[e]
  exact h2 hw
def sIx(n d:Nat):Option Int→Nat
 |none=>d
 |some v=>if v<0 then(v+(n:Int)).toNat else min v.toNat n
theorem sIx_nat(n d k:Nat):sIx n d (some (k:Int))=min k n:=by
 show (if (k:Int)<0 then((k:Int)+(n:Int)).toNat else min (k:Int).toNat n)=min k n
 rw[if_neg (by omega),Int.toNat_natCast]
theorem sIx_le(n d:Nat)(hd:d≤n)(o:Option Int):sIx n d o≤n:=by
 cases o with
 |none=>exact hd
 |some v=>
  show (if v<0 then(v+(n:Int)).toNat else min v.toNat n)≤n
  by_cases hv:v<0
  ·rw[if_pos hv];omega
  ·rw[if_neg hv];exact Nat.min_le_right _ _
theorem clip_eq(v:Int)(n d:Nat):(if v<0 then max (v+(n:Int)) 0 else min v (n:Int))=((sIx n d (some v):Nat):Int):=by
 show (if v<0 then max (v+(n:Int)) 0 else min v (n:Int))=(((if v<0 then(v+(n:Int)).toNat else min v.toNat n):Nat):Int)
 by_cases hv:v<0
 ·simp only[if_pos hv];omega
 ·simp only[if_neg hv];omega
theorem adjust_gen(lo hi:Option Int)(n:Nat):Builtin.Slice.sliceAdjust lo hi 1 (n:Int)=(((sIx n 0 lo:Nat):Int),((sIx n n hi:Nat):Int)):=by
 have h1:¬((1:Int)<0):=by omega
 unfold Builtin.Slice.sliceAdjust
 simp only[h1,if_false]
 refine Prod.ext ?_ ?_
 ·cases lo with
  |none=>rfl
  |some v=>exact clip_eq v n 0
 ·cases hi with
  |none=>rfl
  |some v=>exact clip_eq v n n
theorem places_gen(i j:Nat):Builtin.Slice.slicePlaces (i:Int) (j:Int) 1=j - i:=by
 unfold Builtin.Slice.slicePlaces
 have h1:(1:Int)>0:=by omega
 simp only[h1,if_true,Int.ediv_one]
 split<;>omega
theorem slicePart_{v:Value}{o:Option Int}{Q:Option Int→Shared→Prop}(p:IsPart v o)(h:Q o s):wpAny (model prog w) A (Builtin.Slice.slicePartIndex v) Q E s:=by
 cases p with
 |none=>exact slicePart_none h
 |int i t=>exact slicePart_int h
theorem sliceApplied_gen{sl:Addr}{vl vu:Value}{lo hi:Option Int}{n:Nat}{Q:Int×Int×Nat→Shared→Prop}(hs:s.heap.IsSliceOf sl vl vu .none)(pl:IsPart vl lo)(pu:IsPart vu hi)
 (h:Q (((sIx n 0 lo:Nat):Int),1,sIx n n hi - sIx n 0 lo) s):wpAny (model prog w) A (Builtin.Slice.sliceApplied (.ref sl) (pure (n:Int))) Q E s:=by
 obtain⟨os,tM,zA,yQ⟩:=id hs
 unfold Builtin.Slice.sliceApplied Builtin.Slice.sliceFields
 refine wpAny_bind (wpAny_bind (wpAny_field tM yQ (x:=vl) rfl (wpAny_bind (wpAny_field tM yQ (x:=vu) rfl (wpAny_bind (wpAny_field tM yQ (x:= .none) rfl (wpAny_pure ?_)))))))
 refine wpAny_bind (slicePart_none ?_)
 show wpAny _ _ (if ((1:Int)==0)=true then _ else _) _ _ s
 rw[if_neg (by decide)]
 refine wpAny_bind (slicePart_ pl (wpAny_bind (slicePart_ pu (wpAny_bind (wpAny_pure ?_)))))
 show wpAny _ _ (match Builtin.Slice.sliceAdjust lo hi 1 (n:Int) with | (lo,hi)=>pure (lo,(1:Int),Builtin.Slice.slicePlaces lo hi 1)) _ _ s
 rw[adjust_gen lo hi n]
 show wpAny _ _ (pure (((sIx n 0 lo:Nat):Int),(1:Int),Builtin.Slice.slicePlaces ((sIx n 0 lo:Nat):Int) ((sIx n n hi:Nat):Int) 1)) _ _ s
 rw[places_gen]
 exact wpAny_pure h
theorem pick_gen(xs:Array Value)(i k:Nat):((List.range k).filterMap fun(m:Nat)=>xs[((i:Int)+(m:Int)*1).toNat]?).toArray=((xs.toList.drop i).take k).toArray:=by
 have e:(fun (m:Nat)=>xs[((i:Int)+(m:Int)*1).toNat]?)=fun m=>xs[i+m]? :=by
  funext m
  have:((i:Int)+(m:Int)*1).toNat=i+m:=by omega
  rw[this]
 rw[e]
 have:=pick_run xs i k
 rw[List.filterMap_map] at this
 have e2:((fun x=>xs[x]?)∘fun x=>i+x)=fun m=>xs[i+m]? :=rfl
 rw[e2] at this
 rw[this]
theorem getItem_tuple_cut{t sl:Addr}{items:Array Value}{vl vu:Value}{lo hi:Option Int}{Q:Value→Shared→Prop}(ht:IsTup s.heap t items)(hs:s.heap.IsSliceOf sl vl vu .none)(pl:IsPart vl lo)(pu:IsPart vu hi)
 (hw:¬(sIx items.size 0 lo=0∧sIx items.size items.size hi=items.size))
 (h:Q (.ref s.heap.objs.size) {s with heap:=s.heap.push {cls:= .type "tuple",data:= .seq ((items.toList.drop (sIx items.size 0 lo)).take (sIx items.size items.size hi - sIx items.size 0 lo)).toArray} })
 (hsz:items.size≤sizeLine):wpAny (model prog w) A (getItem (.ref t) (.ref sl)) Q E s:=by
 have sq:sizeOk (.seq ((items.toList.drop (sIx items.size 0 lo)).take (sIx items.size items.size hi - sIx items.size 0 lo)).toArray):=by
  show ((items.toList.drop (sIx items.size 0 lo)).take (sIx items.size items.size hi - sIx items.size 0 lo)).toArray.size≤sizeLine
  rw[List.size_toArray,List.length_take,List.length_drop,Array.length_toList]
  omega
 have hj:sIx items.size items.size hi≤items.size:=sIx_le _ _ (Nat.le_refl _) hi
 obtain⟨os,tM,zA,yQ⟩:=id hs
 have Dq:s.TypeIs (.ref sl) "slice":=⟨os,tM,zA⟩
 unfold getItem
 try with_reducible refine wpAny_holding ?_
 first | refine wpAny_bind (wpAny_pure ?_) | skip
 refine wpAny_bind (wpAny_sequenceKey ht.typeIs (by decide) ?_)
 refine wpAny_bind (wpAny_callSpecial?_slot (name:=Str.ofString "__getitem__") ht.typeIs PyProof.Rows.slot_tuple_getitem
  (wpAny_call_entry PyProof.Rows.slot_tuple_getitem ht.typeIs entry_tuple_getitem ?_ (args_tuple_getitem _ _)))
 show wpAny _ _ (Builtin.Tuple.tupleItemsOf (.ref t)>>=_) _ _ s
 refine wpAny_bind (tupleItemsOf_ ht ?_)
 refine wpAny_bind (wpAny_typeOf Dq ?_)
 rw[if_pos (by decide)]
 refine wpAny_bind (sliceApplied_gen hs pl pu ?_)
 have zD:¬((((sIx items.size 0 lo:Nat):Int)==0&&(1:Int)==1&&(sIx items.size items.size hi - sIx items.size 0 lo)==items.size)=true):=by
  intro q
  rw[Bool.and_eq_true,Bool.and_eq_true] at q
  have q1:((sIx items.size 0 lo:Nat):Int)=0:=eq_of_beq q.1.1
  have q2:sIx items.size items.size hi - sIx items.size 0 lo=items.size:=eq_of_beq q.2
  exact hw ⟨by omega,by omega⟩
 show wpAny _ _ (if (((sIx items.size 0 lo:Nat):Int)==0&&(1:Int)==1&&(sIx items.size items.size hi - sIx items.size 0 lo)==items.size)=true then _ else _) _ _ s
 rw[if_neg zD,pick_gen]
 first
  |exact wpAny_bind (m:=Builtin.Tuple.tupleExact _) (wpAny_newObj_type (wpAny_pure ⟨_,rfl,wpAny_pure h⟩) sq)
  |exact wpAny_bind (m:=Builtin.Tuple.tupleExact _) (wpAny_newObj_type (wpAny_bind (wpAny_pure (wpAny_pure ⟨_,rfl,wpAny_pure h⟩))) sq)
  |exact wpAny_bind (wpAny_bind (m:=Builtin.Tuple.tupleExact _) (wpAny_newObj_type (wpAny_pure (wpAny_pure ⟨_,rfl,wpAny_pure h⟩)) sq))
  |exact wpAny_bind (wpAny_bind (m:=Builtin.Tuple.tupleExact _) (wpAny_newObj_type (wpAny_pure ⟨_,rfl,wpAny_pure h⟩) sq))
end
end HT
namespace L2
open PySem PySem.Spec PyProof.Rows
abbrev TO:=St→Hp→(Option Int→Hp→Prop)→Prop
def PO(X:Cx)(e:Option Expr)(t:TO):Prop:=
 ∀(pins:List (Addr×Obj)) (s:Shared) (σ:St) (H:Hp) (Q:Option Int→Hp→Prop),Inv X pins σ H s→t σ H Q→
  wpAny (model X.prog X.w) X.A (evalPart e X.env) (fun u s'=>∃o H',Inv X pins σ H' s'∧IsPart u o∧Q o H') X.xe s
def Cm(t:TE):TO:=fun σ H Q=>t σ H fun x H1=>∃i,x= .int i∧Q (some i) H1
section
variable{X:Cx}{e:Expr}{te:TE}{lo hi:Option Expr}{tl th:TO}{pos p2:Pos}
theorem yj(h:PE X e te):PO X (some e) (Cm te):=by
 intro pins s σ H Q I hw
 rw[evalPart_some]
 refine bV (h pins s σ H _ I hw) fun u s1 ⟨x,H1,I1,r1,q1⟩=>?_
 obtain⟨i,rfl,q⟩:=q1
 obtain⟨t,rfl⟩:=r1
 exact⟨some i,H1,I1, .int i t,q⟩
def SlR(X:Cx)(r:V→Option Int→Option Int→Hp→VK→Prop):Prop:=
 ∀(pins:List (Addr×Obj)) (s:Shared) (σ:St) (H:Hp) (x:V) (v vl vu:Value) (lo hi:Option Int) (sl:Addr) (Q:VK),Inv X pins σ H s→RelV x v→s.heap.IsSliceOf sl vl vu .none→IsPart vl lo→IsPart vu hi→r x lo hi H Q→
  ∃T id,typeLookup (.type T) "__getitem__"=pure (some (.builtin id))∧s.TypeIs v T∧wpAny (model X.prog X.w) X.A (getItem v (.ref sl)) (EP X pins σ Q) X.xe s
theorem SlR.or{r r':V→Option Int→Option Int→Hp→VK→Prop}(h:SlR X r)(h':SlR X r'):SlR X (fun x lo hi H Q=>r x lo hi H Q∨r' x lo hi H Q):=by
 intro pins s σ H x v vl vu lo hi sl Q I rx hs pl pu q
 rcases q with q | q
 ·exact h pins s σ H x v vl vu lo hi sl Q I rx hs pl pu q
 ·exact h' pins s σ H x v vl vu lo hi sl Q I rx hs pl pu q
def G6(r:V→Option Int→Option Int→Hp→VK→Prop)(te:TE)(tl th:TO):TE:=fun σ H Q=>te σ H fun x H1=>tl σ H1 fun l H2=>th σ H2 fun u H3=>r x l u H3 Q
theorem v_{r:V→Option Int→Option Int→Hp→VK→Prop}(hr:SlR X r)(he:PE X e te)(hl:PO X lo tl)(hu:PO X hi th):PE X (.Subscript e (.Slice lo hi none p2) pos) (G6 r te tl th):=by
 intro pins s σ H Q I h
 refine Subscript_ (bV (he pins s σ H _ I h) fun v s1 ⟨x,H1,I1,r1,q1⟩=>?_)
 refine wpAny_Slice (bV (hl pins s1 σ H1 _ I1 q1) fun vl s2 ⟨l,H2,I2,pl,q2⟩=>bV (hu pins s2 σ H2 _ I2 q2) fun vu s3 ⟨u,H3,I3,pu,q3⟩=>?_)
 rw[evalPart_none]
 refine wpAny_pure ?_
 have I4:Inv X pins σ H3 {s3 with heap:=s3.heap.push {cls:= .type "slice",data:= .fields #[vl,vu, .none]} }:=I3.kept (t':=s3.toks) fun b ob q=>Heap.get?_push_of_some _ q
 obtain⟨T,id,hT,ht,hg⟩:=hr pins {s3 with heap:=s3.heap.push {cls:= .type "slice",data:= .fields #[vl,vu, .none]} } σ H3 x v vl vu l u s3.heap.objs.size Q I4 r1 (Heap.IsSliceOf.new ..) pl pu q3
 show wpAny (model X.prog X.w) X.A (subscriptTail e (.Slice lo hi none p2) v (.ref s3.heap.objs.size)) (EP X pins σ Q) X.xe {s3 with heap:=s3.heap.push {cls:= .type "slice",data:= .fields #[vl,vu, .none]} }
 exact tail_any (ops:=[.ref s3.heap.objs.size,v]) ht hT hg (by with_unfolding_all rfl)
def o3(xs:List V)(lo hi:Option Int):List V:=(xs.drop (HT.sIx xs.length 0 lo)).take (HT.sIx xs.length xs.length hi - HT.sIx xs.length 0 lo)
theorem jt(xs:List V)(lo hi:Option Int):(o3 xs lo hi).length≤xs.length:=by
 unfold o3
 rw[List.length_take,List.length_drop]
 omega
def Eo(K:W.Frag):V→Option Int→Option Int→Hp→VK→Prop:=fun x lo hi H Q=>∃a xs,x= .ref a∧SqT K H a xs∧
 ¬(HT.sIx xs.length 0 lo=0∧HT.sIx xs.length xs.length hi=xs.length)∧∀p,H p=none→Q (.ref p) (upd H p (.tup (o3 xs lo hi)))
theorem AE:SlR X (Eo X.K):=by
 intro pins s σ H x v vl vu lo hi sl Q I rx hs pl pu h
 obtain⟨a,xs,rfl,hx,hw,q⟩:=h
 cases rx
 obtain⟨aG,r,ht,hz⟩:=I.tuple hx
 have hlen:aG.toArray.size=xs.length:=by rw[List.size_toArray];exact r.length.symm
 refine⟨"tuple",_,PyProof.Rows.slot_tuple_getitem.lookup,ht.typeIs,?_⟩
 refine HT.getItem_tuple_cut ht hs pl pu (by rw[hlen];exact hw) ?_ (by rw[hlen];exact hz)
 rw[hlen]
 refine⟨.ref s.heap.objs.size,_,I.laid (t':=s.toks) (o:= .tup (o3 xs lo hi)) (fun b ob q=>Heap.get?_push_of_some _ q) (Nat.le_refl _) ?_,rfl,q _ (I.hok.fresh (Nat.le_refl _))⟩
 exact⟨Nat.le_trans (jt xs lo hi) hz,_,(r.drop (HT.sIx xs.length 0 lo)).take (HT.sIx xs.length xs.length hi - HT.sIx xs.length 0 lo),IsTup.new _ _⟩
def B5(K:W.Frag):R2:=fun x y H Q=>∃a b xs ys,x= .ref a∧y= .ref b∧SqT K H a xs∧SqT K H b ys∧xs≠[]∧xs.length+ys.length≤sizeLine∧
 (ys=[]→Q (.ref a) H)∧(ys≠[]→∀p,H p=none→Q (.ref p) (upd H p (.tup (xs++ys))))
theorem Vals.nil_iff{xs:List V}{us:List Value}(r:Vals xs us):us=[]↔xs=[]:=by
 cases r with
 |nil=>simp
 |cons _ _=>simp
theorem xP:OpR X (binaryOp .Add) (B5 X.K):=by
 intro pins s σ H x y v u Q I rx ry h
 obtain⟨a,b,xs,ys,rfl,rfl,ha,hb,hx,hz,q1,q2⟩:=h
 cases rx
 cases ry
 obtain⟨aG,r1,p1,_⟩:=I.tuple ha
 obtain⟨d6,r2,p2,_⟩:=I.tuple hb
 refine HT.cat_tup p1 p2 (fun z=>hx (r1.nil_iff.mp z)) (fun z=>⟨.ref a,H,I,rfl,q1 (r2.nil_iff.mp z)⟩) (fun z=>?_) (by rw[←r1.length,←r2.length];exact hz)
 refine⟨.ref s.heap.objs.size,_,I.laid (t':=s.toks) (o:= .tup (xs++ys)) (fun b ob q=>Heap.get?_push_of_some _ q) (Nat.le_refl _) ?_,rfl,q2 (fun w=>z (r2.nil_iff.mpr w)) _ (I.hok.fresh (Nat.le_refl _))⟩
 exact⟨by rw[List.length_append];exact hz,_,r1.append r2,IsTup.new _ _⟩
end
def zO(n:Nat)(i:Int):Option Nat:=if 0≤i then(if i<n then some i.toNat else none) else if -(n:Int)≤i then some (i+n).toNat else none
def atI{α:Type}(xs:List α)(i:Int):Option α:=(zO xs.length i).bind fun j=>xs[j]?
theorem xH{n:Nat}{i:Int}{j:Nat}(h:zO n i=some j):seqIndex? i n=some j∧j<n∧ -(n:Int)≤i∧i<n:=by
 unfold zO at h
 by_cases h0:0≤i
 ·rw[if_pos h0] at h
  by_cases h1:i<n
  ·rw[if_pos h1] at h
   have e:i.toNat=j:=Option.some.inj h
   exact⟨by rw[seqIndex_of h0 h1,e],by omega,by omega,h1⟩
  ·rw[if_neg h1] at h;cases h
 ·rw[if_neg h0] at h
  by_cases h1: -(n:Int)≤i
  ·rw[if_pos h1] at h
   have e:(i+n).toNat=j:=Option.some.inj h
   exact⟨by rw[seqIndex_neg (by omega) h1,e],by omega,h1,by omega⟩
  ·rw[if_neg h1] at h;cases h
theorem nh{α:Type}{xs:List α}{i:Int}{v:α}(h:atI xs i=some v):∃j,seqIndex? i xs.length=some j∧xs[j]? =some v∧j<xs.length∧ -(xs.length:Int)≤i∧i<xs.length:=by
 unfold atI at h
 cases e:zO xs.length i with
 |none=>rw[e] at h;cases h
 |some j=>
  rw[e] at h
  obtain⟨h1,h2,h3,h4⟩:=xH e
  exact⟨j,h1,h,h2,h3,h4⟩
def gm(b:Expr):Prop:=∀o i,subscripted b false o i=operate [o,i] (getItem o i)
def A4(X:Cx)(r:R2):Prop:=
 ∀(value slice:Expr) (pins:List (Addr×Obj)) (s:Shared) (σ:St) (H:Hp) (x y:V) (v u:Value) (Q:VK),Inv X pins σ H s→RelV x v→RelV y u→r x y H Q→
  subscripted slice false v u=operate [v,u] (getItem v u)→wpAny (model X.prog X.w) X.A (subscriptTail value slice v u) (EP X pins σ Q) X.xe s
def AN(X:Cx)(id:String)(r:V→List V→Hp→VK→Prop):Prop:=
 ∀(pins:List (Addr×Obj)) (s:Shared) (σ:St) (H:Hp) (x:V) (xs:List V) (v:Value) (us:List Value) (Q:VK),Inv X pins σ H s→RelV x v→Vals xs us→r x xs H Q→
  wpAny (model X.prog X.w) X.A (call (.builtin id) (v::us)) (EP X pins σ Q) X.xe s
section
variable{X:Cx}{a b:Expr}{ta tb:TE}{pos:Pos}
theorem BZ{r:R2}(hr:A4 X r)(ha:PE X a ta)(hb:PE X b tb)(hs:gm b):PE X (.Subscript a b pos) (Ck r ta tb):=by
 intro pins s σ H Q I h
 exact Subscript_ (y_ ha hb I h fun v u s2 x y H2 I2 rx ry q=>hr a b pins s2 σ H2 x y v u Q I2 rx ry q (hs _ _))
def Ay(K:W.Frag):R2:=fun x y H Q=>∃p xs i v,x= .ref p∧y= .int i∧SqL K H p xs∧atI xs i=some v∧Q v H
def Ca(K:W.Frag):R2:=fun x y H Q=>∃p xs i v,x= .ref p∧y= .int i∧SqT K H p xs∧atI xs i=some v∧Q v H
def B_:R2:=fun x y H Q=>∃z i c,x= .str z∧y= .int i∧z.length≤sizeLine∧atI z.cps.toList i=some c∧Q (.str ⟨#[c]⟩) H
theorem sv:A4 X (Ay X.K):=by
 intro value slice pins s σ H x y v u Q I rx ry h hs
 obtain⟨p,xs,i,z,rfl,rfl,hq,he,q⟩:=h
 cases rx
 obtain⟨t,rfl⟩:=ry
 obtain⟨aG,r,pl,hz⟩:=I.list hq
 obtain⟨j,h1,h2,h3,h4,h5⟩:=nh he
 obtain⟨w,ew,w_⟩:=r.get h2
 have hl:=r.length
 have hn:=i5
 have fin:EP X pins σ Q w s:=⟨z,H,I,w_,q⟩
 by_cases h0:0≤i
 ·have hj:i.toNat=j:=by
   rw[seqIndex_of h0 h5] at h1
   exact Option.some.inj h1
  exact item_listR pl.isList h0 (by omega) (by rw[hj];simpa using ew) fin hs
 ·have hj:(i+(aG.toArray.size:Int)).toNat=j:=by
   rw[seqIndex_neg (by omega) h4] at h1
   rw[List.size_toArray,←hl]
   exact Option.some.inj h1
  exact subscriptTail_builtinR (x:=w) pl.isList.typeIs slot_list_getitem.lookup
   (wpAny_getItem_list_neg (Q:=fun r s'=>r=w∧EP X pins σ Q r s') pl.isList (by omega) (by rw[List.size_toArray]<;>omega) (by omega) (by rw[hj];simpa using ew) ⟨rfl,fin⟩) hs
theorem zQ:A4 X (Ca X.K):=by
 intro value slice pins s σ H x y v u Q I rx ry h hs
 obtain⟨p,xs,i,z,rfl,rfl,hq,he,q⟩:=h
 cases rx
 obtain⟨t,rfl⟩:=ry
 obtain⟨aG,r,pl,hz⟩:=I.tuple hq
 obtain⟨j,h1,h2,h3,h4,h5⟩:=nh he
 obtain⟨w,ew,w_⟩:=r.get h2
 have hl:=r.length
 have hn:=i5
 have fin:EP X pins σ Q w s:=⟨z,H,I,w_,q⟩
 exact subscriptTail_builtinR (x:=w) pl.typeIs slot_tuple_getitem.lookup
  (getItem_tuple (j:=j) (Q:=fun r s'=>r=w∧EP X pins σ Q r s') pl (by omega) (by omega) (by rw[List.size_toArray,←hl];exact h1) (by simpa using ew) ⟨rfl,fin⟩) hs
theorem zP:A4 X B_:=by
 intro value slice pins s σ H x y v u Q I rx ry h hs
 obtain⟨z,i,c,rfl,rfl,hz,he,q⟩:=h
 obtain⟨t,rfl⟩:=rx
 obtain⟨t',rfl⟩:=ry
 obtain⟨j,h1,h2,h3,h4,h5⟩:=nh he
 have hl:z.cps.toList.length=z.length:=by simp[Str.length]
 rw[hl] at h1 h4 h5
 have hn:=i5
 exact tail_any (typeIs_str s z t) slot_str_getitem.lookup (getItem_str (c:=c) (by
  have e1:decide (i< -(2 ^ 63:Int))=false:=decide_eq_false (by omega)
  have e2:decide (i≥2 ^ 63)=false:=decide_eq_false (by omega)
  rw[e1,e2,Bool.or_false]) (by rw[h1];simpa using h2) ⟨.str ⟨#[c]⟩,H,I.tok _,⟨_,rfl⟩,q⟩) hs
theorem ot(lo hi:Option Int)(n:Nat):(sliceBounds lo hi none n).1=((HT.sIx n 0 lo:Nat):Int)∧(sliceBounds lo hi none n).2.1=((HT.sIx n n hi:Nat):Int)∧(sliceBounds lo hi none n).2.2=1:=by
 refine⟨?_,?_,rfl⟩
 ·cases lo with
  |none=>simp[sliceBounds,HT.sIx]
  |some i=>
   simp only[sliceBounds,HT.sIx,Option.getD_none,show (1:Int)>0 by decide,if_true]
   by_cases h:i<0
   ·simp only[h,if_true]<;>omega
   ·simp only[h,if_false]<;>omega
 ·cases hi with
  |none=>simp[sliceBounds,HT.sIx]
  |some i=>
   simp only[sliceBounds,HT.sIx,Option.getD_none,show (1:Int)>0 by decide,if_true]
   by_cases h:i<0
   ·simp only[h,if_true]<;>omega
   ·simp only[h,if_false]<;>omega
theorem l6(aG:List Value)(lo hi:Option Int):slicePick aG.toArray lo hi none=((aG.drop (HT.sIx aG.length 0 lo)).take (HT.sIx aG.length aG.length hi - HT.sIx aG.length 0 lo)).toArray:=by
 obtain⟨h1,h2,h3⟩:=ot lo hi aG.toArray.size
 unfold slicePick
 rw[h1,h2,h3]
 simp only[sliceRange_one,pick_run,List.size_toArray]<;>rfl
def En(K:W.Frag):V→Option Int→Option Int→Hp→VK→Prop:=fun x lo hi H Q=>∃a xs,x= .ref a∧SqL K H a xs∧∀p,H p=none→Q (.ref p) (upd H p (.lst (o3 xs lo hi)))
theorem yx:SlR X (En X.K):=by
 intro pins s σ H x v vl vu lo hi sl Q I rx hs pl pu h
 obtain⟨a,xs,rfl,hx,q⟩:=h
 cases rx
 obtain⟨aG,r,ht,hz⟩:=I.list hx
 have hlen:=r.length
 refine⟨"list",_,slot_list_getitem.lookup,ht.isList.typeIs,?_⟩
 refine wpAny_getItem_list_slice ht.isList hs pl pu .none (by simp) ?_ (by rw[List.size_toArray]<;>omega)
 rw[l6,←hlen]
 refine⟨.ref s.heap.objs.size,_,I.laid (t':=s.toks) (o:= .lst (o3 xs lo hi)) (fun b ob q=>Heap.get?_push_of_some _ q) (Nat.le_refl _) ?_,rfl,q _ (I.hok.fresh (Nat.le_refl _))⟩
 exact⟨Nat.le_trans (jt xs lo hi) hz,_,0,(r.drop (HT.sIx xs.length 0 lo)).take (HT.sIx xs.length xs.length hi - HT.sIx xs.length 0 lo),Heap.get?_push_size _ rfl⟩
theorem ni:CallR X (.builtin "len") (fun xs H Q=>∃p ys,xs=[.ref p]∧(SqL X.K H p ys∨SqT X.K H p ys)∧Q (.int ys.length) H):=by
 intro pins s σ H xs us Q I r h
 obtain⟨p,ys,rfl,hq,q⟩:=h
 obtain⟨u,rfl,rx⟩:=vals1 r
 cases rx
 have hn:=i5
 rcases hq with hq | hq
 ·obtain⟨aG,r',pl,hz⟩:=I.list hq
  have hlen:=r'.length
  exact Calls.call_len_list pl.isList (by simp only[List.size_toArray]<;>omega) ⟨.int ys.length,H,I.tok _,⟨s.toks+1,by rw[List.size_toArray,hlen]⟩,q⟩
 ·obtain⟨aG,r',pl,hz⟩:=I.tuple hq
  have hlen:=r'.length
  exact len_tuple pl (by simp only[List.size_toArray]<;>omega) ⟨.int ys.length,H,I.tok _,⟨s.toks+1,by rw[List.size_toArray,hlen]⟩,q⟩
theorem nj:CallR X (.builtin "len") (fun xs H Q=>∃z,xs=[.str z]∧z.length≤sizeLine∧Q (.int z.length) H):=by
 intro pins s σ H xs us Q I r h
 obtain⟨z,rfl,hz,q⟩:=h
 obtain⟨u,rfl,t,rfl⟩:=vals1 r
 have hn:=i5
 exact len_str (by omega) ⟨.int z.length,H,I.tok _,⟨_,rfl⟩,q⟩
theorem CallR.or{f:Value}{r r':List V→Hp→VK→Prop}(h:CallR X f r)(h':CallR X f r'):CallR X f (fun xs H Q=>r xs H Q∨r' xs H Q):=by
 intro pins s σ H xs us Q I rs q
 rcases q with q | q
 ·exact h pins s σ H xs us Q I rs q
 ·exact h' pins s σ H xs us Q I rs q
theorem lR:CallR X (.type "tuple") (fun xs H Q=>∃p ys,xs=[.ref p]∧((SqL X.K H p ys∧∀l,H l=none→Q (.ref l) (upd H l (.tup ys)))∨(SqT X.K H p ys∧Q (.ref p) H))):=by
 intro pins s σ H xs us Q I r h
 obtain⟨p,ys,rfl,h⟩:=h
 obtain⟨u,rfl,rx⟩:=vals1 r
 cases rx
 rcases h with⟨hq,q⟩ | ⟨hq,q⟩
 ·obtain⟨aG,r',pl,hz⟩:=I.list hq
  have hlen:=r'.length
  refine call_tuple_list pl.isList (fun h' kp=>?_) (by simp only[List.size_toArray]<;>omega)
  have I1:Inv X pins σ H {s with heap:=h'}:=I.kept (t':=s.toks) kp
  have I2:Inv X pins σ (upd H h'.objs.size (.tup ys)) {s with heap:=h'.push {cls:= .type "tuple",data:= .seq aG.toArray} }:=
   I1.laid (t':=s.toks) (fun b o e=>Heap.get?_push_of_some _ e) (Nat.le_refl _) (show ObjOk X.prog X.w _ _ _ (.tup ys) from⟨hz,aG,r',IsTup.new _ _⟩)
  exact⟨.ref h'.objs.size,_,I2,rfl,q _ (I1.hok.fresh (Nat.le_refl _))⟩
 ·obtain⟨aG,r',pl,hz⟩:=I.tuple hq
  exact call_tuple_same pl ⟨.ref p,H,I,rfl,q⟩
def Cr(K:W.Frag)(T:String)(x:V)(H:Hp):Prop:=match x with
 | .str _=>T="str"
 | .int _=>T="int"
 | .ref p=>(T="list"∧∃xs,SqL K H p xs)∨(T="tuple"∧∃o,K.lookup p=some o∧o.cls= .type "tuple"∧o.dict=none)∨
    (T="dict"∧((∃aJ,H p=some (.dK aJ))∨∃aJ,H p=some (.dT aJ)))∨(T="set"∧∃S n,H p=some (.set S n))
 |_=>False
theorem AL{pins:List (Addr×Obj)}{σ:St}{H:Hp}{s:Shared}{T:String}{x:V}{v:Value}(I:Inv X pins σ H s)(r:RelV x v)(ty:Cr X.K T x H):
 s.TypeIs v T∧∀a,v= .ref a→∃ob,s.heap.get? a=some ob∧ob.dict=none:=by
 cases x with
 |str z=>
  obtain⟨t,rfl⟩:=r
  cases (show T="str" from ty)
  exact⟨typeIs_str s z t,fun _ e=>nomatch e⟩
 |int i=>
  obtain⟨t,rfl⟩:=r
  cases (show T="int" from ty)
  exact⟨typeIs_int s i t,fun _ e=>nomatch e⟩
 |ref p=>
  cases r
  rcases ty with⟨rfl,xs,hq⟩ | ⟨rfl,o,hk,hc,hd⟩ | ⟨rfl,hk⟩ | ⟨rfl,S,n,hk⟩
  ·obtain⟨aG,_,pl,_⟩:=I.list hq
   refine⟨pl.isList.typeIs,fun a e=>?_⟩
   cases e
   obtain⟨o,n,e,c,hd,_⟩:=pl
   exact⟨o,e,hd⟩
  ·refine⟨⟨o,I.kIn p o hk,hc⟩,fun a e=>?_⟩
   cases e
   exact⟨o,I.kIn _ o hk,hd⟩
  ·have z:∃o,s.heap.get? p=some o∧o.ExactDict:=by
    rcases hk with⟨aJ,hk⟩ | ⟨aJ,hk⟩
    ·obtain⟨_,_,_,_,o,_,_,e,ex,_⟩:=I.hok p _ hk
     exact⟨o,e,ex⟩
    ·obtain⟨_,_,_,_,o,_,_,e,ex,_⟩:=I.hok p _ hk
     exact⟨o,e,ex⟩
   obtain⟨o,e,ex⟩:=z
   refine⟨⟨o,e,ex.1⟩,fun a e2=>?_⟩
   cases e2
   exact⟨o,e,ex.2.1⟩
  ·obtain⟨o,_,_,_,e,ex,_⟩:=I.hok p _ hk
   refine⟨⟨o,e,ex.1⟩,fun a e2=>?_⟩
   cases e2
   exact⟨o,e,ex.2.1⟩
 |_=>exact False.elim ty
def Eu(K:W.Frag)(T:String)(r:V→List V→Hp→VK→Prop)(to:TE)(t:TA):TE:=fun σ H Q=>to σ H fun x H1=>Cr K T x H1∧t σ H1 fun xs H2=>r x xs H2 Q
variable{o e:Expr}{es:List Expr}{to:TE}{t:TA}{name:Str}{apos aM:Pos}{T id:String}{r:V→List V→Hp→VK→Prop}
theorem vV(pa:PlainAttrs T)(slot:Slot T name id)(DY:typeOf (.builtin id)=pure (.type "method_descriptor"))(hm:AN X id r)(ho:PE X o to)(ha:PA X (e::es) t)
 (dZ:attributeBase o name X.env (eval o X.env)=eval o X.env:=by rfl)
 (gW:((backTo aM (starEach (e::es) X.env)).all (fun x=>!x.1)&&(backToKw aM (keywordEach [] X.env)).all (fun x=>x.1.isSome)
  &&decide ((e::es).length+([]:List Keyword).length+(if ([]:List Keyword).isEmpty then 0 else 1)<30))=true:=by rfl)
 (d4:(apos.endLine==aM.line)=true:=by rfl) (hs:starEach (e::es) X.env=(false,eval e X.env)::starEach es X.env:=by rfl) (qP:(backTo aM (starEach es X.env)).any (·.1)=false:=by rfl):
 PE X (.Call (.Attribute o name apos) (e::es) [] aM) (Eu X.K T r to t):=by
 intro pins s σ H Q I h
 refine wpAny_Call_method_late dZ gW d4 rfl (bV (ho pins s σ H _ I h) fun v s1 ⟨x,H1,I1,r1,ty,q1⟩=>?_)
 obtain⟨h1,h2⟩:=AL I1 r1 ty
 refine⟨T,id,pa,slot,DY,h1,h2,?_⟩
 have hA:=ha aM pins s1 σ H1 _ I1 q1
 rw[hs] at hA⊢
 refine Calls.callWith_builtin (by show (false||(backTo aM (starEach es X.env)).any (·.1))=false;rw[qP]<;>rfl) (Calls.evalArgs_plain ?_)
 exact bV hA fun us s2 ⟨vs,H2,I2,r2,q2⟩=>hm pins s2 σ H2 x vs v us Q I2 r1 r2 q2
end
def EK(X:Cx)(id:String)(r:V→List V→Hp→VK→Prop):Prop:=
 ∀(pins:List (Addr×Obj)) (s:Shared) (σ:St) (H:Hp) (x:V) (xs:List V) (v:Value) (us:List Value) (Q:VK),Inv X pins σ H s→RelV x v→Vals xs us→r x xs H Q→
  wpAny (model X.prog X.w) X.A (call (.builtin id) (v::us)) (EP X pins σ Q) X.xe s
theorem Vals.one:∀{x:V}{us:List Value},Vals [x] us→∃u,us=[u]∧RelV x u
 |_,_, .cons r .nil=>⟨_,rfl,r⟩
theorem Vals.rep{xs:List V}{us:List Value}(h:Vals xs us):∀k:Nat,Vals (List.replicate k xs).flatten (List.replicate k us).flatten
 |0=> .nil
 |k+1=>by
  rw[List.replicate_succ,List.replicate_succ,List.flatten_cons,List.flatten_cons]
  exact Vals.append h (Vals.rep h k)
theorem foldl_rep(aG:List Value):∀(k:Nat) (acc:List Value),
 List.foldl (fun x1 x2=>x1++x2) acc.toArray (List.replicate k aG.toArray)=(acc++(List.replicate k aG).flatten).toArray
 |0,acc=>by simp
 |k+1,acc=>by
  have e:acc.toArray++aG.toArray=(acc++aG).toArray:=by simp
  have e2:(acc++aG)++(List.replicate k aG).flatten=acc++(List.replicate (k+1) aG).flatten:=by
   rw[List.replicate_succ,List.flatten_cons,List.append_assoc]
  rw[←e2,←foldl_rep aG k (acc++aG),←e,List.replicate_succ,List.foldl_cons]
section
variable{X:Cx}{pins:List (Addr×Obj)}{σ:St}{H:Hp}{s:Shared}{l b:Addr}{xs ys zs:List V}
theorem Inv.lset{aG its':List Value}{n:Nat}{f:Array Value→Array Value}{t':Nat}(I:Inv X pins σ H s)(hH:H l=some (.lst xs))
 (e:s.heap.get? l=some {cls:= .type "list",data:= .seq aG.toArray n})(hf:f aG.toArray=its'.toArray)(hv:Vals ys its')(hz:ys.length≤sizeLine):
 Inv X pins σ (upd H l (.lst ys)) {s with heap:=s.heap.update l (Obj.mapSeq f),toks:=t'}:=by
 have q:=PySem.IsL.update e f
 rw[hf] at q
 refine I.write (x:=l) (e:=l) (by rw[hH];exact trivial) (.inl rfl) (fun b' u hb hu=>(Heap.get?_update_other s.heap (Obj.mapSeq f) (Ne.symm hb)).trans hu) ⟨_,q⟩ ?_
 exact⟨hz,its',_,hv,q⟩
theorem Inv.lnew{aG:List Value}{t':Nat}(I:Inv X pins σ H s)(hv:Vals ys aG)(hz:ys.length≤sizeLine):
 Inv X pins σ (upd H s.heap.objs.size (.lst ys)) {s with heap:=s.heap.push {cls:= .type "list",data:= .seq aG.toArray},toks:=t'}:=
 I.laid (fun _ _ q=>Heap.get?_push_of_some _ q) (Nat.le_refl _) ⟨hz,aG,0,hv,Heap.get?_push_size _ rfl⟩
theorem Inv.fresh(I:Inv X pins σ H s):H s.heap.objs.size=none:=I.hok.fresh (Nat.le_refl _)
theorem Inv.lstM(I:Inv X pins σ H s)(hH:H l=some (.lst xs)):xs.length≤sizeLine∧∃(aG:List Value) (n:Nat),Vals xs aG∧xs.length=aG.length∧s.heap.get? l=some {cls:= .type "list",data:= .seq aG.toArray n}:=by
 obtain⟨z,aG,n,r,e⟩:=I.hok l _ hH
 exact⟨z,aG,n,r,r.length,e⟩
theorem pG{n:Nat}(h:n≤sizeLine):Builtin.List.listTooLong n=false:=by
 unfold Builtin.List.listTooLong
 exact decide_eq_false (by omega)
end
section
variable{X:Cx}
def sP:V→List V→Hp→VK→Prop:=fun x vs H Q=>∃l xs y,x= .ref l∧vs=[y]∧H l=some (.lst xs)∧xs.length<sizeLine∧Q .non (upd H l (.lst (xs++[y])))
theorem mH:EK X "list.append" sP:=by
 intro pins s σ H x vs v us Q I rx rv h
 obtain⟨l,xs,y,rfl,rfl,hH,hz,q⟩:=h
 cases rx
 obtain⟨u,rfl,ru⟩:=rv.one
 obtain⟨z,aG,n,r,hl,e⟩:=I.lstM hH
 refine call_meets F.slot_list_append ⟨_,e,rfl⟩ F.entry_list_append (F.args_list_append_2 _ _) (PySem.list_append l aG.toArray n u (by rw[List.size_toArray];omega)) ⟨e,?_⟩
 refine⟨.non,_,I.lset (its':=aG++[u]) hH e (by simp) (r.append (.cons ru .nil)) ?_,rfl,q⟩
 rw[List.length_append,List.length_singleton]
 omega
def sQ:V→List V→Hp→VK→Prop:=fun x vs H Q=>∃l b xs zs,x= .ref l∧vs=[.ref b]∧H l=some (.lst xs)∧H b=some (.lst zs)∧xs.length+zs.length≤sizeLine∧Q .non (upd H l (.lst (xs++zs)))
theorem t5:EK X "list.extend" sQ:=by
 intro pins s σ H x vs v us Q I rx rv h
 obtain⟨l,b,xs,zs,rfl,rfl,hH,hB,hz,q⟩:=h
 cases rx
 obtain⟨u,rfl,ru⟩:=rv.one
 cases ru
 obtain⟨z,aG,n,r,hl,e⟩:=I.lstM hH
 obtain⟨z2,d6,n2,r2,DL,e2⟩:=I.lstM hB
 have hsz:aG.toArray.size+d6.toArray.size≤sizeLine:=by rw[List.size_toArray,List.size_toArray];omega
 have vg:¬(!aG.toArray.isEmpty&&Builtin.List.listTooLong (aG.toArray.size+d6.toArray.size))=true:=by
  rw[pG hsz,Bool.and_false]
  exact Bool.false_ne_true
 refine call_meets F.slot_list_extend ⟨_,e,rfl⟩ F.entry_list_extend (F.args_list_extend_2 _ _)
  (AutoSeq1.list_extend_list_list_0 l aG.toArray n b d6.toArray n2 vg (by rw[List.size_toArray];omega) (by omega)) ⟨e,e2,?_⟩
 refine⟨.non,_,I.lset (its':=aG++d6) hH e (by simp) (r.append r2) ?_,rfl,q⟩
 rw[List.length_append]
 omega
def Ei:R2:=fun x y H Q=>∃l b xs zs,x= .ref l∧y= .ref b∧H l=some (.lst xs)∧H b=some (.lst zs)∧xs.length+zs.length≤sizeLine∧∀p,H p=none→Q (.ref p) (upd H p (.lst (xs++zs)))
theorem z0:OpR X (binaryOp .Add) Ei:=by
 intro pins s σ H x y v u Q I rx ry h
 obtain⟨l,b,xs,zs,rfl,rfl,hH,hB,hz,q⟩:=h
 cases rx
 cases ry
 obtain⟨z,aG,n,r,hl,e⟩:=I.lstM hH
 obtain⟨z2,d6,n2,r2,DL,e2⟩:=I.lstM hB
 refine PySem.P.add_list e e2 ?_ (by rw[List.size_toArray,List.size_toArray];omega)
 have ea:aG.toArray++d6.toArray=(aG++d6).toArray:=by simp
 rw[ea]
 exact⟨.ref _,_,I.lnew (t':=s.toks) (r.append r2) (by rw[List.length_append];omega),rfl,q _ I.fresh⟩
def Em:R2:=fun x y H Q=>∃l k xs,x= .ref l∧y= .int k∧H l=some (.lst xs)∧ -(2 ^ 63)≤k∧k<2 ^ 63∧xs.length*k.toNat≤sizeLine∧
 ∀p,H p=none→Q (.ref p) (upd H p (.lst (List.replicate k.toNat xs).flatten))
theorem len_rep{α:Type}(xs:List α)(k:Nat):(List.replicate k xs).flatten.length=k*xs.length:=by
 induction k with
 |zero=>simp
 |succ k ih=>rw[List.replicate_succ,List.flatten_cons,List.length_append,ih,Nat.succ_mul,Nat.add_comm]
theorem z5:OpR X (binaryOp .Mult) Em:=by
 intro pins s σ H x y v u Q I rx ry h
 obtain⟨l,k,xs,rfl,rfl,hH,h1,h2,hz,q⟩:=h
 cases rx
 obtain⟨t,rfl⟩:=ry
 obtain⟨z,aG,n,r,hl,e⟩:=I.lstM hH
 have hlen:aG.toArray.size*k.toNat≤sizeLine:=by rw[List.size_toArray,←hl];exact hz
 have Dv:¬aG.toArray.size*k.toNat>(2 ^ 63 - 1) / 8:=by
  have:(sizeLine:Nat)≤(2 ^ 63 - 1) / 8:=by decide
  omega
 have Dz:¬(!Builtin.List.listFitsIndex k)=true:=by
  rw[fitsIndex_both h1 h2]
  exact Bool.false_ne_true
 have vg:¬Builtin.List.listTooLong (aG.toArray.size*k.toNat)=true:=by
  rw[pG hlen]
  exact Bool.false_ne_true
 have vh:List.foldl (fun x1 x2=>x1++x2) #[] (List.replicate (if aG.toArray.isEmpty=true then 0 else k.toNat) aG.toArray)=(List.replicate k.toNat aG).flatten.toArray:=by
  have f0:∀m:Nat,List.foldl (fun x1 x2=>x1++x2) #[] (List.replicate m aG.toArray)=(List.replicate m aG).flatten.toArray:=fun m=>by
   have:=foldl_rep aG m []
   rw[List.nil_append] at this
   exact this
  rw[f0]
  cases aG with
  |nil=>simp
  |cons a r'=>rw[if_neg (by simp)]
 refine wpAny_binaryOp_repeat_ref (T:="list") (U:="int") (by decide) ⟨_,e,rfl⟩ (fun s'=>typeIs_int s' k t) noFill_list_mul F.fills_int_mul F.slot_int_rmul repeat_list F.slot_int_index.lookup
  (call_meets F.slot_int_rmul (typeIs_int s k t) F.entry_int_rmul (F.args_int_rmul_2 _ _) (int___rmul___int_list k t l aG.toArray n)
   ⟨e,rfl,⟨_,e,rfl⟩,call_meets F.slot_list_mul ⟨_,e,rfl⟩ F.entry_list_mul (F.args_list_mul_2 _ _) (AutoListH.list___mul___list_int_3 l aG.toArray n k t Dz Dv vg) ⟨e,?_⟩⟩)
 rw[vh]
 exact⟨.ref _,_,I.lnew (t':=s.toks) (r.rep k.toNat) (by rw[len_rep,Nat.mul_comm];exact hz),rfl,q _ I.fresh⟩
end
section
variable{prog:Program}{w:World}{A:Around}{E:Value→Shared→Prop}{s:Shared}
end
section
variable{X:Cx}
end
end L2
namespace Att
open PySem PySem.W PySem.Calls PyProof.Rows
theorem ints_of_wellAll{P:Params}{h:Heap}:∀(ns:List Int) (vs:List Value),WellAll P h vs (ns.map WData.int)→IntsAre vs ns:=by
 intro ns
 induction ns with
 |nil=>
  intro vs w
  rw[List.map_nil] at w
  cases w
  exact .nil
 |cons n ns ih=>
  intro vs w
  rw[List.map_cons] at w
  cases w with
  |cons a b=>
   cases a
   exact .cons _ _ (ih _ b)
theorem script_of{l:OpenLaw}{n:Nat}(hn:l.most=some n){P:Params}{h:Heap}{args:List WData}{vals:List Value}
 (xB:l.row.toRowW.claim.pre args=true)(DZ:WellAll P h vals args):
 ∃a vs ns,vals=[Value.ref a]∧args=[WData.list (ns.map WData.int)]∧h.get? a=some {cls:= .type "list",data:= .seq vs.toArray}∧IntsAre vs ns∧ns.length≤n:=by
 have GG:WShape.hasAll [] args [.list .int]=true:=(pre_splitW xB).1
 have hc:l.pre.holds [] {args:=args}=true:=(pre_splitW xB).2
 obtain⟨d,r,rfl,h1,h2⟩:=hasAllW_cons GG
 obtain rfl:=hasAllW_nil h2
 obtain⟨xs,rfl,h3⟩:=hasW_list h1
 obtain⟨ns,rfl⟩:=items_int h3
 have hlen:ns.length≤n:=by
  unfold OpenLaw.pre at hc
  have h4:(WTm.not (.lt (.lit (.int (n:Int))) (.len (.arg 0)))).holds [] {args:=[.list (ns.map .int)]}=true:=by
   have h4:=(holds_andW hc).1
   rw[hn] at h4
   exact h4
  have h5:=condW_of h4 (w_not (w_lt w_lit (w_len_list (w_arg rfl))))
  rw[List.length_map] at h5
  refine Nat.le_of_not_lt fun q=>?_
  have q':(n:Int)<((ns.length:Nat):Int):=by omega
  first
   |(rw [decide_eq_true q'] at h5;exact absurd h5 (by decide))
   |(simp at h5;omega)
 cases DZ with
 |cons w1 w2=>
  cases w2
  cases w1 with
  |list ho Dt=>exact⟨_,_,ns,rfl,rfl,ho,ints_of_wellAll ns _ Dt,hlen⟩
theorem post_true(l:OpenLaw)(args:List WData):l.row.toRowW.claim.post args (.bool true) args=true:=
 postW_of (r:=l.row.toRowW) (X:=(true==true))
  (show WShape.has [] (.bool true) .bool=true by first | rfl | decide | simp[WShape.has,WShape.arms,WShape.armsAll])
  (show (WTm.eq .res (.lit (.bool true))).value [] {args:=args,res:=some (.bool true),after:=args}=some (.bool (true==true)) from w_eq_bool (w_res rfl) w_lit) rfl
theorem attach_call{l:OpenLaw}{n:Nat}{q:Program}{loose:List Str}{XP:(Str→Option Value)→Heap→Prop}{YP:World→Heap→Prop}{d:DefRec}
 (hn:l.most=some n)(Bw:d.params.defaults=[])
 (call:∀(w:World) (s₀ s₁:Shared) (mg mb:Str→Option Value) (fa:Addr) (o:Obj) (pm cd doc:Value) (a:Addr) (vs:List Value) (ns:List Int),
  Ground q loose [] XP w s₀ mg mb s₁.heap→YP w s₁.heap→
  s₁.heap.get? fa=some o→o.data= .func (docDef d.name d.params d.body d.scope pm cd doc)→s₁.heap.CodeRec cd d.name→mg d.name=some (.ref fa)→
  s₁.heap.get? a=some {cls:= .type "list",data:= .seq vs.toArray}→IntsAre vs ns→ns.length≤n→s₁.gens= #[]→
  codeAny (model l.prog w) callerA (.call (.ref fa) ⟨[.ref a],[]⟩) (fun r s'=>r= .ok (.ret (.bool true))∧OldK s₁.heap s'.heap∧s'.os=s₁.os∧AllBare s'.gens) s₁):
 WalkO q loose XP YP l.row.toRowW d [] (fun f vs=>PySem.call f vs):=by
 intro w s₀ s₁ mg mb G Y fa o pm cd doc dV kV ho hd qr hD zC hg args vals as xB Gs Hs DZ Hq
 obtain rfl:dV= .none:=Dflts.none hD Bw
 obtain rfl:kV= .none:=Dflts.noKw hD
 obtain⟨a,vs,ns,rfl,rfl,vi,hints,hlen⟩:=script_of hn xB DZ
 refine enter_call (codeAny_mono (call w s₀ s₁ mg mb fa o pm cd doc a vs ns G Y ho (fd_plain hd) qr zC vi hints hlen hg) fun r s' hq=>?_)
 obtain⟨rfl,h2,h3,h4⟩:=hq
 exact⟨.inl ⟨.bool true, .bool true,[],rfl,fun _=>rfl, .bool true,post_true l _,fun _=>⟨List.Pairwise.nil,fun _ hm=>(nomatch hm)⟩⟩,h2,h3,h4⟩
section
variable{prog:Program}{w:World}{A:Around}{E:Value→Shared→Prop}{s:Shared}{K:Frag}
def ledger(h:Heap)(L d:Addr):List (Addr×Obj):=(List.range h.objs.size).filterMap fun a=>if a=L∨a=d then none else(h.get? a).map fun o=>(a,o)
end
end Att
namespace L2
open PySem PySem.Spec PyProof.Rows
theorem m8:∀{vs:List Value}{ns:List Int},IntsAre vs ns→Vals (ns.map V.int) vs
 |_,_, .nil=> .nil
 |_,_, .cons n t h=> .cons ⟨t,rfl⟩ (m8 h)
def y9(H:Hp):Prop:=∀b,H b=none∨∃o xs,H b=some (.frz o (.lst xs))
theorem pB{P:Program}{w:World}{K:W.Frag}{mg mb:Str→Option Value}{CX:qw}{k:Nat}{fa a:Addr}{fd:FuncData}{x:Str}{sp:Sp}{s₁:Shared}{vs:List Value}{ns:List Int}
 (KX:K.In s₁.heap)(CJ:s₁.heap.Ns mainGlobals mg)(hb:s₁.heap.Ns builtinsNs mb)(Ga:∀x:Str,x≠"__name__"→mb x=bootBuiltins x)(BE:s₁.heap.NoLimit)(hg:s₁.gens= #[])
 (ha:s₁.heap.get? a=some {cls:= .type "list",data:= .seq vs.toArray})(hi:IntsAre vs ns)(hl:ns.length≤sizeLine)(hr:Room k callerA)
 (F:∀base:Heap,K.In base→base.Ns mainGlobals mg→FnOk P w K mg base CX k fa fd [x] sp)(Bt:∀(s:Shared) (u:Value),BindsTo s fd ⟨[u],[]⟩ [(x,u)])
 (qu:∀H:Hp,y9 H→SqL K H a (ns.map V.int)→sp [.ref a] H (fun v _=>v= .bl true) fun _ _ _=>False)
 (Dl:∀H e s',CX [] H s₁ (fun _ _ _=>False) e s'→False):
 codeAny (model P w) callerA (.call (.ref fa) ⟨[.ref a],[]⟩) (fun r s'=>r= .ok (.ret (.bool true))∧OldK s₁.heap s'.heap∧s'.os=s₁.os∧AllBare s'.gens) s₁:=by
 have rv:=m8 hi
 have D_:=hi.length
 have core:∀H:Hp,y9 H→SqL K H a (ns.map V.int)→HOk P w H s₁.heap→(∀b,H b≠none→b=a)→(H a≠none→K.lookup a=none)→
  codeAny (model P w) callerA (.call (.ref fa) ⟨[.ref a],[]⟩) (fun r s'=>r= .ok (.ret (.bool true))∧OldK s₁.heap s'.heap∧s'.os=s₁.os∧AllBare s'.gens) s₁:=by
  intro H hO hS hok hA hK
  have rY:∀{b:Addr}{o:Obj},s₁.heap.get? b=some o→H b=none→(nE s₁.heap H).get? b=some o:=fun e n=>ve e n
  have BQ:∀{b:Addr}{o:Obj}{es:Array DictEntry}{ep:Nat},s₁.heap.get? b=some o→o.data= .dict es ep→H b=none:=fun {b o es ep} e d=>by
   cases q:H b with
   |none=>rfl
   |some u=>
    have e':b=a:=hA b (by rw[q];simp)
    subst e'
    rw[ha] at e;cases e
    have d':Data.seq vs.toArray _=Data.dict es ep:=d
    cases d'
  have CN:∀{b:Addr}{m:Str→Option Value},s₁.heap.Ns b m→(nE s₁.heap H).Ns b m:=fun {b m} ⟨o,es,ep,e,d,r⟩=>⟨o,es,ep,rY e (BQ e d),d,r⟩
  have E4:K.In (nE s₁.heap H):=fun b o e=>rY (KX b o e) (by
   cases q:H b with
   |none=>rfl
   |some u=>
    have e':b=a:=hA b (by rw[q];simp)
    subst e'
    rw[hK (by rw[q];simp)] at e;cases e)
  have hM:Mod K mg (nE s₁.heap H):=⟨E4,CN CJ,⟨mb,CN hb,Ga⟩,let ⟨mc,h1,h2⟩:=BE;⟨mc,CN h1,h2⟩⟩
  have e0:Env0 P w K mg (nE s₁.heap H) callerA [] s₁ H:=⟨rfl,hM,fun b o e=>xO e,Nat.le_of_eq (tL _ _),trivial,fun b hb=>absurd (show b∈([]:List Addr) from hb) (by simp),hok, .of_eq hg⟩
  refine codeAny_mono ((F _ E4 (CN CJ)).run callerA [] s₁ H ⟨[.ref a],[]⟩ [.ref a] [.ref a] _ _ hr e0 (Bt s₁ (.ref a)) (.cons rfl .nil) (qu H hO hS)) fun r s' h=>?_
  cases r with
  |error e=>exact(Dl H e s' h).elim
  |ok fl=>
   cases fl with
   |next=>exact False.elim h
   |brk=>exact False.elim h
   |cont=>exact False.elim h
   |ret u=>
    obtain⟨v,H',os,bare,un,DQ,r',q⟩:=h
    have q':v= .bl true:=q
    subst q'
    obtain rfl:u=Value.bool true:=r'
    refine⟨rfl,OldK.of_keep fun b o e=>?_,os,bare⟩
    cases q:H b with
    |none=>exact un.keep b o e q (by intro z;exact absurd (show b∈([]:List Addr) from z) (by simp)) (by simp)
    |some u=>
     rcases hO b with z | ⟨ob,xs,z⟩
     ·rw[q] at z;cases z
     ·have z2:=un.frzs b ob _ z
      obtain⟨e1,_⟩:=hok b _ z
      obtain⟨e2,_⟩:=DQ b _ z2
      rw[e] at e1;cases e1
      exact e2
 cases hk:K.lookup a with
 |some o=>
  have e:=KX a o hk
  rw[ha] at e
  cases e
  refine core (fun _=>none) (fun _=> .inl rfl) (.inr ⟨_,vs.toArray,_,hk,rfl,rfl,rfl,by rw[List.size_toArray,D_];exact hl,by simpa using rv⟩) (fun b u z=>by have z':(none:Option HO)=some u:=z;cases z') (fun b z=>absurd rfl z) fun z=>absurd rfl z
 |none=>
  refine core (fun b=>if b=a then some (.frz {cls:= .type "list",data:= .seq vs.toArray} (.lst (ns.map V.int))) else none) (fun b=>?_) (.inl (.inr ⟨{cls:= .type "list",data:= .seq vs.toArray},if_pos rfl⟩)) (fun b u z=>?_) (fun b z=>?_) fun _=>hk
  ·by_cases hb:b=a
   ·exact .inr ⟨_,_,if_pos hb⟩
   ·exact .inl (if_neg hb)
  ·by_cases hb:b=a
   ·have z':=(if_pos hb).symm.trans z
    cases z'
    subst hb
    exact⟨ha,by rw[List.length_map];exact hl,vs,_,rv,ha⟩
   ·have z':=(if_neg hb).symm.trans z
    cases z'
  ·by_cases hb:b=a
   ·exact hb
   ·exact absurd (if_neg hb) z
abbrev Hb{K:W.Frag}{h:Heap}(_:K.In h):W.Frag:=K
theorem CU{l:PySem.W.OpenLaw}{n k:Nat}{q:Program}{loose:List Str}{XP:(Str→Option Value)→Heap→Prop}{YP:World→Heap→Prop}{d:DefRec}{K:Params→W.Frag}{CX:World→qw}{sp:World→Sp}{x:Str}
 (hn:l.most=some n)(BF:n≤sizeLine)(Bw:d.params.defaults=[])(hr:Room k callerA)
 (hY:∀(w:World) (h:Heap),YP w h→(K w.params).In h)
 (F:∀(w:World) (mg:Str→Option Value) (fa:Addr) (h:Heap),(K w.params).In h→h.Ns mainGlobals mg→mg d.name=some (.ref fa)→
  ∃fd:FuncData,(∀(s:Shared) (u:Value),BindsTo s fd ⟨[u],[]⟩ [(x,u)])∧
   ∀base:Heap,(K w.params).In base→base.Ns mainGlobals mg→FnOk l.prog w (K w.params) mg base (CX w) k fa fd [x] (sp w))
 (qu:∀(w:World) (H:Hp) (a:Addr) (ns:List Int),ns.length≤n→y9 H→SqL (K w.params) H a (ns.map V.int)→sp w [.ref a] H (fun v _=>v= .bl true) fun _ _ _=>False)
 (Dl:∀(w:World) (H:Hp) (s:Shared) (e:Value) (s':Shared),CX w [] H s (fun _ _ _=>False) e s'→False):
 PySem.W.WalkO q loose XP YP l.row.toRowW d [] (fun f vs=>PySem.call f vs):=by
 refine Att.attach_call hn Bw fun w s₀ s₁ mg mb fa o pm cd doc a vs ns G Y ho hd qr zC vi hints hlen hg=>?_
 have KX:=hY w _ Y
 obtain⟨fd,hb,hF⟩:=F w mg fa _ KX G.T.g zC
 exact pB KX G.T.g G.T.b G.T.builtins G.T.nolimit hg vi hints (Nat.le_trans hlen BF) hr hF hb (fun H hO hS=>qu w H a ns hlen hO hS) fun H e s'=>Dl w H s₁ e s'
def dm(s:Stmt):Arguments:=match s with
 | .FunctionDef _ a _ _ _ _ _ _ _ _=>a
 |_=>{posonlyargs:=[],args:=[],vararg:=none,kwonlyargs:=[],kw_defaults:=[],kwarg:=none,defaults:=[]}
def aK(s:Stmt):List Stmt:=match s with
 | .FunctionDef _ _ b _ _ _ _ _ _ _=>b
 |_=>[]
def ag(s:Stmt):Scope:=match s with
 | .FunctionDef _ _ _ _ _ _ sc _ _ _=>sc
 |_=>{kind:= .function,names:=[],isGenerator:=false,isCoroutine:=false}
abbrev CV:qw:=fun _ _ _ _ _ _=>False
abbrev E0:XK:=fun _ _ _=>False
structure Fun (K:W.Frag) (x qual:Str) (st:Stmt) (f:Addr) (fd:FuncData):Prop where
 ex:∃(oc:Value) (od:Option Addr) (kV doc pm:Value) (an:Option Addr) (a5 ct:Value) (vO:Array (Option Value)),
  fd=PySem.W.fnOf x qual (dm st) (aK st) (ag st) .none kV doc pm an a5 ct∧K.lookup f=some ⟨oc,od, .func fd,vO⟩∧PySem.W.codeIn K a5 qual=true
 kp:PySem.W.keepIn K (.ref f)=true
section
variable{P:Program}{w:World}{K:W.Frag}{mg:Str→Option Value}{base:Heap}
theorem Fun.binds{x qual:Str}{st:Stmt}{f:Addr}{fd:FuncData}{ps:List Str}(F:Fun K x qual st f fd)
 (h:∀(kV doc pm:Value) (an:Option Addr) (a5 ct:Value) (us:List Value),us.length=ps.length→bindArgs (PySem.W.fnOf x qual (dm st) (aK st) (ag st) .none kV doc pm an a5 ct) ⟨us,[]⟩=pure (ps.zip us)):Binds K fd ps []:=by
 obtain⟨oc,od,kV,doc,pm,an,a5,ct,vO,rfl,lk,qr⟩:=F.ex
 exact .all (h kV doc pm an a5 ct)
theorem u_{x qual:Str}{st:Stmt}{f:Addr}{oc:Value}{od an:Option Addr}{vO:Array (Option Value)}{kV doc pm a5 ct:Value}(l:K.lookup f=some ⟨oc,od, .func (PySem.W.fnOf x qual (dm st) (aK st) (ag st) .none kV doc pm an a5 ct),vO⟩)
 (c:PySem.W.codeIn K a5 qual=true)(k:PySem.W.keepIn K (.ref f)=true):Fun K x qual st f (PySem.W.fnOf x qual (dm st) (aK st) (ag st) .none kV doc pm an a5 ct):=⟨⟨oc,od,kV,doc,pm,an,a5,ct,vO,rfl,l,c⟩,k⟩
end
section
variable{X:Cx}
theorem pv(i:Nat){x:Str}{pos:Pos}(hN:X.N[i]? =some x:=by rfl)(hv:C8 X.env.scope x:=by first | exact Or.inl rfl | exact Or.inr (Or.inl rfl) | exact Or.inr (Or.inr rfl))(hd:(x==("__debug__":Str))=false:=by decide)
 (qr:(x==("__classdict__":Str))=false:=by decide):PE X (.Name x pos) (md i):=An hN hv hd qr
end
def Same(H H':Hp):Prop:=∀b o,H b=some o→H' b=some o
theorem Same.refl(H:Hp):Same H H:=fun _ _ h=>h
theorem Same.trans{H H1 H2:Hp}(a:Same H H1)(b:Same H1 H2):Same H H2:=fun c o h=>b c o (a c o h)
theorem Same.free{H H':Hp}(e:Same H H'){l:Addr}(h:H' l=Option.none):H l=Option.none:=by
 cases q:H l with
 |none=>rfl
 |some o=>
  rw[e l o q] at h
  cases h
theorem Same.seq{K:W.Frag}{H H':Hp}{a:Addr}{xs:List V}(e:Same H H')(h:SqL K H a xs):SqL K H' a xs:=by
 rcases h with(h | ⟨o,h⟩) | h
 ·exact .inl (.inl (e _ _ h))
 ·exact .inl (.inr ⟨o,e _ _ h⟩)
 ·exact .inr h
section
variable{κ:Type}[DecidableEq κ]
def iL(aJ:List (κ×V))(k:κ):Option V:=(aJ.find? fun kv=>decide (kv.1=k)).map (·.2)
def putK(aJ:List (κ×V))(k:κ)(v:V):List (κ×V):=
 if (aJ.any fun kv=>decide (kv.1=k))=true then aJ.map (fun kv=>if kv.1=k then(kv.1,v) else kv) else aJ++[(k,v)]
theorem iN{p:κ×V}{r:List (κ×V)}{k:κ}(e:p.1=k):iL (p::r) k=some p.2:=by simp[iL,List.find?_cons,e]
theorem iM{p:κ×V}{r:List (κ×V)}{k:κ}(e:¬p.1=k):iL (p::r) k=iL r k:=by simp[iL,List.find?_cons,e]
theorem lJ(k:κ):∀aJ:List (κ×V),(aJ.any fun kv=>decide (kv.1=k))=(iL aJ k).isSome
 |[]=>rfl
 |p::r=>by
  rw[List.any_cons]
  by_cases e:p.1=k
  ·simp only[iN e,decide_eq_true e,Bool.true_or,Option.isSome_some]
  ·rw[iM e,decide_eq_false e,Bool.false_or];exact lJ k r
theorem ek(aJ:List (κ×V))(k:κ)(v:V):(putK aJ k v).length≤aJ.length+1:=by
 unfold putK
 split
 ·rw[List.length_map];omega
 ·rw[List.length_append,List.length_cons,List.length_nil];omega
theorem RelO.isSome_eq{o:Option V}{u:Option Value}(r:RelO o u):o.isSome=u.isSome:=by
 cases o with
 |none=>cases u with
  |none=>rfl
  |some _=>exact(show False from r).elim
 |some _=>cases u with
  |none=>exact(show False from r).elim
  |some _=>rfl
theorem RelO.getD{o:Option V}{u:Option Value}{d:V}{d':Value}(r:RelO o u)(rd:RelV d d'):RelV (o.getD d) (u.getD d'):=by
 cases o with
 |none=>cases u with
  |none=>exact rd
  |some _=>exact(show False from r).elim
 |some _=>cases u with
  |none=>exact(show False from r).elim
  |some _=>exact r
theorem KV.val{aJ:List (κ×V)}{vs:List (κ×Value)}(r:KV aJ vs)(k:κ):RelO (iL aJ k) (valueAt vs k):=by
 unfold KV at r
 induction r with
 |nil=>exact True.intro
 | @cons p q ps qs h t ih=>
   obtain⟨h1,h2⟩:=h
   by_cases e:p.1=k
   ·have e':q.1=k:=h1.symm.trans e
    have b:valueAt (q::qs) k=some q.2:=by simp[valueAt,List.find?_cons,e']
    rw[iN e,b];exact h2
   ·have e':¬q.1=k:=fun z=>e (h1.trans z)
    have b:valueAt (q::qs) k=valueAt qs k:=by simp[valueAt,List.find?_cons,e']
    rw[iM e,b];exact ih
theorem KV.any{aJ:List (κ×V)}{vs:List (κ×Value)}(r:KV aJ vs)(k:κ):(aJ.any fun kv=>decide (kv.1=k))=vs.any fun kv=>decide (kv.1=k):=by
 unfold KV at r
 induction r with
 |nil=>rfl
 |cons h t ih=>rw[List.any_cons,List.any_cons,ih,h.1]
theorem KV.repl{aJ:List (κ×V)}{vs:List (κ×Value)}(r:KV aJ vs)(k:κ){y:V}{u:Value}(ry:RelV y u):
 KV (aJ.map fun kv=>if kv.1=k then(kv.1,y) else kv) (vs.map fun kv=>if kv.1=k then(kv.1,u) else kv):=by
 unfold KV at r⊢
 induction r with
 |nil=>exact .nil
 | @cons p q ps qs h t ih=>
   rw[List.map_cons,List.map_cons]
   refine .cons ?_ ih
   obtain⟨h1,h2⟩:=h
   by_cases e:p.1=k
   ·rw[if_pos e,if_pos (h1.symm.trans e)];exact⟨h1,ry⟩
   ·rw[if_neg e,if_neg (fun z=>e (h1.trans z))];exact⟨h1,h2⟩
theorem KV.put{aJ:List (κ×V)}{vs:List (κ×Value)}(r:KV aJ vs)(k:κ){y:V}{u:Value}(ry:RelV y u):KV (putK aJ k y) (stored vs k u):=by
 unfold putK stored
 rw[r.any k]
 by_cases e:(vs.any fun kv=>decide (kv.1=k))=true
 ·rw[if_pos e,if_pos e];exact r.repl k ry
 ·rw[if_neg e,if_neg e];exact Paired.snoc r ⟨rfl,ry⟩
theorem KV.length{aJ:List (κ×V)}{vs:List (κ×Value)}(r:KV aJ vs):aJ.length=vs.length:=Paired.length r
end
theorem kQ{P:Program}{w:World}{k:Key}{u:Value}(r:RelV (kV k) u):(bz P w).is k u=true:=by
 cases k with
 |inl i=>obtain⟨t,e⟩:=(show∃t,u=Value.int i t from r);subst e;exact pD P w i t
 |inr x=>obtain⟨t,e⟩:=(show∃t,u=Value.str x t from r);subst e;exact pE P w x t
theorem mE{P:Program}{w:World}:∀{ks:List Key}{us:List Value},Vals (ks.map kV) us→ItemsAre (bz P w) ks us
 |[],_,r=>by rw[List.map_nil] at r;cases r;exact .nil
 |k::ks,_,r=>by
  rw[List.map_cons] at r
  cases r with
  |cons h t=>exact .cons (kQ h) (mE t)
abbrev KT(H:Hp):List (List Key×V)→List (List Key×Addr×Value)→Prop:=Paired fun p q=>p.1=q.1∧H q.2.1=some (.tup (p.1.map kV))∧RelV p.2 q.2.2
theorem KT.val{H:Hp}{aJ:List (List Key×V)}{xs:List (List Key×Addr×Value)}(r:KT H aJ xs)(k:List Key):RelO (iL aJ k) ((atKey xs k).map (·.2)):=by
 induction r with
 |nil=>exact True.intro
 | @cons p q ps qs h t ih=>
   obtain⟨h1,_,h2⟩:=h
   by_cases e:p.1=k
   ·have e':q.1=k:=h1.symm.trans e
    have b:atKey (q::qs) k=some q.2:=by simp[atKey,List.find?_cons,e']
    rw[iN e,b];exact h2
   ·have e':¬q.1=k:=fun z=>e (h1.trans z)
    have b:atKey (q::qs) k=atKey qs k:=by simp[atKey,List.find?_cons,e']
    rw[iM e,b];exact ih
theorem KT.repl{H:Hp}{aJ:List (List Key×V)}{xs:List (List Key×Addr×Value)}(r:KT H aJ xs)(k:List Key){y:V}{u:Value}(ry:RelV y u):
 KT H (aJ.map fun kv=>if kv.1=k then(kv.1,y) else kv) (xs.map (putAt k u)):=by
 induction r with
 |nil=>exact .nil
 | @cons p q ps qs h t ih=>
   rw[List.map_cons,List.map_cons]
   refine .cons ?_ ih
   obtain⟨h1,h2,h3⟩:=h
   unfold putAt
   by_cases e:p.1=k
   ·rw[if_pos e,if_pos (h1.symm.trans e)];exact⟨h1,h2,ry⟩
   ·rw[if_neg e,if_neg (fun z=>e (h1.trans z))];exact⟨h1,h2,h3⟩
theorem KT.put{H:Hp}{aJ:List (List Key×V)}{xs:List (List Key×Addr×Value)}(r:KT H aJ xs)(k:List Key){b:Addr}{y:V}{u:Value}(hb:H b=some (.tup (k.map kV)))(ry:RelV y u):
 KT H (putK aJ k y) (storedH xs k b u):=by
 have e:(aJ.any fun kv=>decide (kv.1=k))=(atKey xs k).isSome:=by
  rw[lJ,(r.val k).isSome_eq,Option.isSome_map]
 unfold putK storedH
 rw[e]
 by_cases q:(atKey xs k).isSome=true
 ·rw[if_pos q,if_pos q];exact r.repl k ry
 ·rw[if_neg q,if_neg q];exact Paired.snoc r ⟨rfl,hb,ry⟩
theorem KT.keeps{H H':Hp}{aJ:List (List Key×V)}{xs:List (List Key×Addr×Value)}(r:KT H aJ xs)(ht:∀b ys,H b=some (.tup ys)→H' b=some (.tup ys)):KT H' aJ xs:=
 Paired.mapP r fun _ _ z=>⟨z.1,ht _ _ z.2.1,z.2.2⟩
section
variable{P:Program}{w:World}{H:Hp}{h:Heap}{a:Addr}
theorem y2{u:HO}(ok:HOk P w H h)(e:Rd H a u):ObjOk P w H h a u:=e.ok ok
theorem kE{aJ:List (Key×V)}(ok:HOk P w H h)(e:Rd H a (.dK aJ)):aJ.length≤sizeLine∧(a==sysModules)=false∧∃vs,KV aJ vs∧h.DictOf (bz P w) a vs:=
 show ObjOk P w H h a (.dK aJ) from y2 ok e
theorem yJ{aJ:List (Key×V)}(ok:HOk P w H h)(e:H a=some (.dK aJ)):aJ.length≤sizeLine∧(a==sysModules)=false∧∃vs,KV aJ vs∧h.DictOf (bz P w) a vs:=kE ok (.inl e)
theorem gX{ks:List Key}(ok:HOk P w H h)(e:H a=some (.tup (ks.map kV))):(tupleKind (bz P w)).is h ks a:=by
 obtain⟨_,aG,r,o,h1,h2,n,h3⟩:=(show ObjOk P w H h a (.tup (ks.map kV)) from ok a _ e)
 exact⟨o,aG.toArray,n,h1,h2,h3,by simpa using mE r⟩
theorem mw{aJ:List (List Key×V)}(ok:HOk P w H h)(e:Rd H a (.dT aJ)):aJ.length≤sizeLine∧(a==sysModules)=false∧
 ∃xs,KT H aJ xs∧h.DictOfH (tupleKind (bz P w)) a xs:=by
 obtain⟨z,y,xs,r,o,es,ep,h1,h2,h3,h4,h5⟩:=(show ObjOk P w H h a (.dT aJ) from y2 ok e)
 refine⟨z,y,xs,r,o,es,ep,h1,h2,h3,h4,fun x hx=>?_,h5⟩
 have all:∀{l:List (List Key×V)}{m:List (List Key×Addr×Value)},KT H l m→∀x∈m,(tupleKind (bz P w)).is h x.1 x.2.1:=by
  intro l m q
  induction q with
  |nil=>intro x hx;exact nomatch hx
  | @cons p q ps qs hq t ih=>
    intro x hx
    rcases List.mem_cons.mp hx with e | hx
    ·subst e
     exact gX ok (by rw[←hq.1];exact hq.2.1)
    ·exact ih x hx
 exact all r x hx
theorem yK{aJ:List (List Key×V)}(ok:HOk P w H h)(e:H a=some (.dT aJ)):aJ.length≤sizeLine∧(a==sysModules)=false∧
 ∃xs,KT H aJ xs∧h.DictOfH (tupleKind (bz P w)) a xs:=mw ok (.inl e)
end
def jZ(H:Hp)(a:Addr)(y:V)(r:Option V):Prop:=
 (∃aJ k,Rd H a (.dK aJ)∧y=kV k∧r=iL aJ k)∨∃aJ k b,Rd H a (.dT aJ)∧y= .ref b∧H b=some (.tup (k.map kV))∧r=iL aJ k
def DPut(H:Hp)(a:Addr)(y v:V)(H':Hp):Prop:=
 (∃aJ k,H a=some (.dK aJ)∧y=kV k∧aJ.length<sizeLine∧H'=upd H a (.dK (putK aJ k v)))∨
 ∃aJ k b,H a=some (.dT aJ)∧y= .ref b∧H b=some (.tup (k.map kV))∧aJ.length<sizeLine∧H'=upd H a (.dT (putK aJ k v))
theorem DPut.k{H:Hp}{a:Addr}{aJ:List (Key×V)}{k:Key}{v:V}(e:H a=some (.dK aJ))(hl:aJ.length<sizeLine):DPut H a (kV k) v (upd H a (.dK (putK aJ k v))):= .inl ⟨aJ,k,e,rfl,hl,rfl⟩
theorem DPut.t{H:Hp}{a b:Addr}{aJ:List (List Key×V)}{k:List Key}{v:V}(e:H a=some (.dT aJ))(eb:H b=some (.tup (k.map kV)))(hl:aJ.length<sizeLine):
 DPut H a (.ref b) v (upd H a (.dT (putK aJ k v))):= .inr ⟨aJ,k,b,e,rfl,eb,hl,rfl⟩
section
variable{X:Cx}{pins:List (Addr×Obj)}{σ:St}{H:Hp}{s:Shared}{a:Addr}{y v:V}{u r:Value}{o:Option V}{A:Around}{E:Value→Shared→Prop}
theorem Inv.big(I:Inv X pins σ H s):sysModules<s.heap.objs.size:=by
 have h:mainGlobals<s.heap.objs.size:=(I.mod.glob.keeps I.bk).lt
 exact Nat.lt_trans (by decide) h
theorem Dc{Q:Value→Shared→Prop}(hu:A.units+1<cLine)(I:Inv X pins σ H s)(g:jZ H a y o)(ry:RelV y u)(h:∀s',Inv X pins σ H s'→Q (.bool o.isSome) s'):
 wpAny (model X.prog X.w) A (compareOp .In u (.ref a)) Q E s:=by
 rcases g with⟨aJ,k,e,ey,l⟩ | ⟨aJ,k,b,e,ey,eb,l⟩
 ·subst ey
  obtain⟨z,hd,vs,rel,dd⟩:=kE I.hok e
  refine wpAny_in_of (kQ ry) hd dd.mapOf ?_
  rw[←(rel.val k).isSome_eq,←l]
  exact h _ (I.tok _)
 ·subst ey
  cases (show u=Value.ref b from ry)
  obtain⟨z,hd,xs,rel,dd⟩:=mw I.hok e
  refine wpAny_in_heap (tupleKind_room_in1 hu) (gX I.hok eb) hd dd ?_
  have q:=(rel.val k).isSome_eq
  rw[Option.isSome_map] at q
  rw[←q,←l]
  exact h _ (I.tok _)
theorem xo{Q:Value→Shared→Prop}(hu:A.units+1<cLine)(I:Inv X pins σ H s)(g:jZ H a y o)(ry:RelV y u)(h:∀s',Inv X pins σ H s'→Q (.bool (!o.isSome)) s'):
 wpAny (model X.prog X.w) A (compareOp .NotIn u (.ref a)) Q E s:=by
 rcases g with⟨aJ,k,e,ey,l⟩ | ⟨aJ,k,b,e,ey,eb,l⟩
 ·subst ey
  obtain⟨z,hd,vs,rel,dd⟩:=kE I.hok e
  refine wpAny_notIn_of (kQ ry) hd dd.mapOf ?_
  rw[←(rel.val k).isSome_eq,←l]
  exact h _ (I.tok _)
 ·subst ey
  cases (show u=Value.ref b from ry)
  obtain⟨z,hd,xs,rel,dd⟩:=mw I.hok e
  refine wpAny_notIn_heap (tupleKind_room_in1 hu) (gX I.hok eb) hd dd ?_
  have q:=(rel.val k).isSome_eq
  rw[Option.isSome_map] at q
  rw[←q,←l]
  exact h _ (I.tok _)
theorem j_{h':Heap}{t':Nat}{ob:HO}(I:Inv X pins σ H s)(mu:A5 (H a))(hs:Heap.SameBut a s.heap h')(he:∃q,h'.get? a=some q)(new:ObjOk X.prog X.w (upd H a ob) h' a ob):
 Inv X pins σ (upd H a ob) {s with heap:=h',toks:=t'}:=
 I.write (x:=a) (e:=a) mu (.inl rfl) (fun b q hb z=>(hs.2 b hb).trans z) he new
theorem uZ{P:Program}{w:World}{H':Hp}{h':Heap}{aJ:List (Key×V)}{vs:List (Key×Value)}(z:aJ.length≤sizeLine)(hd:(a==sysModules)=false)(rel:KV aJ vs)(dd:h'.DictOf (bz P w) a vs):
 ObjOk P w H' h' a (.dK aJ):=⟨z,hd,vs,rel,dd⟩
theorem tF{H':Hp}{Q:Unit→Shared→Prop}(hu:A.units+1<cLine)(I:Inv X pins σ H s)(g:DPut H a y v H')(ry:RelV y u)(rv:RelV v r)(h:∀s',Inv X pins σ H' s'→Q () s'):
 wpAny (model X.prog X.w) A (setItem (.ref a) u r) Q E s:=by
 rcases g with⟨aJ,k,e,ey,l,eH⟩ | ⟨aJ,k,b,e,ey,eb,l,eH⟩
 ·subst ey eH
  obtain⟨z,hd,vs,rel,dd⟩:=yJ I.hok e
  have hz:vs.length≤sizeLine:=by rw[←rel.length];exact z
  have hl:(putK aJ k v).length≤sizeLine:=by have:=ek aJ k v;omega
  refine wpAny_setItem_pairs (hsz:=hz) (kQ ry) dd fun h' xp hs=>h _ ?_
  have he:∃q,h'.get? a=some q:=let ⟨q,_,_,hq,_⟩:=xp;⟨q,hq⟩
  exact j_ I (by rw[e];exact True.intro) hs he (uZ hl hd (rel.put k rv) xp)
 ·subst ey eH
  cases (show u=Value.ref b from ry)
  obtain⟨z,hd,xs,rel,dd⟩:=yK I.hok e
  have hz:xs.length≤sizeLine:=by rw[←Paired.length rel];exact z
  have hl:(putK aJ k v).length≤sizeLine:=by have:=ek aJ k v;omega
  refine wpAny_setItem_heap (hsz:=hz) (tupleKind_room_in1 hu) (gX I.hok eb) dd fun h' xp hs=>h _ ?_
  obtain⟨q,es,ep,hq,h2,h3,h4,_,h5⟩:=xp
  refine j_ I (by rw[e];exact True.intro) hs ⟨q,hq⟩ ⟨hl,hd,_,(rel.put k eb rv).keeps fun c ys ec=>?_,q,es,ep,hq,h2,h3,h4,h5⟩
  rw[ax (yX ec e (fun z=>nomatch z))]
  exact ec
end
section
variable{X:Cx}{pins:List (Addr×Obj)}{σ:St}{H:Hp}{s:Shared}{a:Addr}{aJ:List (Key×V)}{k:Key}{u:Value}{A:Around}{E:Value→Shared→Prop}
theorem Bg{Q:Value→Shared→Prop}(I:Inv X pins σ H s)(e:Rd H a (.dK aJ))(h:∀t s',Inv X pins σ H s'→Q (.int aJ.length t) s'):wpAny (model X.prog X.w) A (call (.builtin "len") [.ref a]) Q E s:=by
 obtain⟨z,hd,vs,rel,dd⟩:=kE I.hok e
 refine call_len_dict hd dd (by rw[←rel.length];rw[sizeLine_eq] at z;omega) ?_
 rw[←rel.length]
 exact h _ _ (I.tok _)
end
def Ex(ty td:TE):TE:=fun σ H Q=>ty σ H fun y H1=>td σ H1 fun x H2=>∃a o,x= .ref a∧jZ H2 a y o∧Q (.bl o.isSome) H2
def Cc(td ty tv:TE):TS:=fun D σ H=>tv σ H fun v H1=>td σ H1 fun x H2=>ty σ H2 fun y H3=>∃a H4,x= .ref a∧DPut H3 a y v H4∧D.nx σ H4
section
variable{X:Cx}{o i e value:Expr}{pos pos' EH:Pos}{td ty tv:TE}
theorem z8(hu:X.A.units+1<cLine)(hi:PE X i ty)(ho:PE X o td):PC X .In i o (Ex ty td):=by
 intro pins s σ H Q I h
 refine bV (hi pins s σ H _ I h) fun iv s1 ⟨y,H1,I1,ry,q1⟩=>bV (ho pins s1 σ H1 _ I1 q1) fun u s2 ⟨x,H2,I2,rx,a,ov,ex,g,q2⟩=>?_
 subst ex
 obtain rfl:u=Value.ref a:=rx
 exact Dc hu I2 g ry fun s3 I3=>⟨.bl ov.isSome,H2,I3,rfl,q2⟩
theorem yk(hu:X.A.units+1<cLine)(ho:PE X o td)(hi:PE X i ty)(hv:PE X value tv)(hs:swapsWith value (some (.Subscript o i pos')) pos.line X.env=pure false):
 PS X (.Assign [.Subscript o i pos'] value pos) (Cc td ty tv):=by
 intro pins s σ H D I h
 refine wpAny_Assign_Subscript (bV (hv pins s σ H _ I h) fun r s1 ⟨v,H1,I1,rv,q1⟩=>bV (ho pins s1 σ H1 _ I1 q1) fun u s2 ⟨x,H2,I2,rx,q2⟩=>bV (hi pins s2 σ H2 _ I2 q2) fun iv s3 ⟨y,H3,I3,ry,a,H4,ex,g,q3⟩=>?_) hs
 subst ex
 obtain rfl:u=Value.ref a:=rx
 exact tF hu I3 g ry rv fun s4 I4=>⟨σ,H4,I4,q3⟩
end
theorem o6{P:Program}{w:World}{H:Hp}(h:Heap)(hb:sysModules<h.objs.size):ObjOk P w H (h.push {cls:= .type "dict",data:= .dict #[]}) h.objs.size (.dK []):=
 ⟨Nat.zero_le _,beq_eq_false_iff_ne.mpr (Ne.symm (Nat.ne_of_lt hb)),[], .nil,Heap.DictOf.new h⟩
theorem u0{P:Program}{w:World}{H:Hp}(h:Heap)(hb:sysModules<h.objs.size):ObjOk P w H (h.push {cls:= .type "dict",data:= .dict #[]}) h.objs.size (.dT []):=
 ⟨Nat.zero_le _,beq_eq_false_iff_ne.mpr (Ne.symm (Nat.ne_of_lt hb)),[], .nil,_,#[],0,Heap.get?_push_size _ rfl,⟨rfl,rfl,rfl⟩,rfl,rfl,List.nodup_nil⟩
def AI:TE:=fun _ H Q=>∀p,H p=none→Q (.ref p) (upd H p (.dK []))
section
variable{X:Cx}{pos:Pos}
theorem v7:PE X (.Dict [] [] pos) AI:=fun pins s σ H Q I h=>
 wpAny_Dict_empty ⟨.ref s.heap.objs.size,_,I.laid (a:=s.heap.objs.size) (o:= .dK []) (t':=s.toks) (fun _ _ q=>Heap.get?_push_of_some _ q) (Nat.le_refl _) (o6 s.heap I.big),rfl,h _ (I.hok.fresh (Nat.le_refl _))⟩
end
def wR:List (TE×TE)→St→Hp→(List (V×V)→Hp→Prop)→Prop
 |[],_,H,Q=>Q [] H
 |(tk,tv)::r,σ,H,Q=>tk σ H fun x H1=>tv σ H1 fun y H2=>wR r σ H2 fun ps H3=>Q ((x,y)::ps) H3
abbrev VV:List (V×V)→List (Value×Value)→Prop:=Paired fun p q=>RelV p.1 q.1∧RelV p.2 q.2
def C4(X:Cx)(pos:Pos)(keys:List (Option Expr))(values:List Expr)(CT:List (TE×TE)):Prop:=
 ∀(pins:List (Addr×Obj)) (s:Shared) (σ:St) (H:Hp) (Q:List (V×V)→Hp→Prop),Inv X pins σ H s→wR CT σ H Q→
  wpAny (model X.prog X.w) X.A (evalPairs (pairTrees keys values X.env pos)) (fun vs s'=>∃ps H',Inv X pins σ H' s'∧VV ps vs∧Q ps H') X.xe s
theorem sM{X:Cx}{pos:Pos}:C4 X pos [] [] []:=fun pins s σ H Q I h=>pairTrees_nil_walk ⟨[],H,I, .nil,h⟩
theorem lx{X:Cx}{pos:Pos}{k v:Expr}{ks:List (Option Expr)}{vs:List Expr}{tk tv:TE}{CT:List (TE×TE)}(hk:PE X k tk)(hv:PE X v tv)(hr:C4 X pos ks vs CT):
 C4 X pos (some k::ks) (v::vs) ((tk,tv)::CT):=fun pins s σ H Q I h=>
 pairTrees_cons_walk (bV (hk pins s σ H _ I h) fun u s1 ⟨x,H1,I1,rx,q1⟩=>bV (hv pins s1 σ H1 _ I1 q1) fun w2 s2 ⟨y,H2,I2,ry,q2⟩=>
  bV (hr pins s2 σ H2 _ I2 q2) fun ws s3 ⟨ps,H3,I3,rel,q3⟩=>⟨(x,y)::ps,H3,I3, .cons ⟨rx,ry⟩ rel,q3⟩)
structure M1 (X:Cx) (o:Expr) (m:Str) (apos:Pos) (e:Expr) (aM:Pos):Prop where
 base:attributeBase o m X.env (eval o X.env)=eval o X.env
 few:((backTo aM (starEach [e] X.env)).all (fun x=>!x.1)&&(backToKw aM (keywordEach [] X.env)).all (fun x=>x.1.isSome)
  &&decide (([e]:List Expr).length+([]:List Keyword).length+(if ([]:List Keyword).isEmpty then 0 else 1)<30))=true
 line:(apos.endLine==aM.line)=true
 trees:backTo aM (starEach [e] X.env)=[(false,eval e X.env)]
structure M2 (X:Cx) (o:Expr) (m:Str) (apos:Pos) (e f:Expr) (aM:Pos):Prop where
 base:attributeBase o m X.env (eval o X.env)=eval o X.env
 few:((backTo aM (starEach [e,f] X.env)).all (fun x=>!x.1)&&(backToKw aM (keywordEach [] X.env)).all (fun x=>x.1.isSome)
  &&decide (([e,f]:List Expr).length+([]:List Keyword).length+(if ([]:List Keyword).isEmpty then 0 else 1)<30))=true
 line:(apos.endLine==aM.line)=true
 trees:backTo aM (starEach [e,f] X.env)=[(false,eval e X.env),(false,eval f X.env)]
def Cv(H:Hp)(a:Addr):Prop:=(∃aJ,Rd H a (.dK aJ))∨∃aJ,Rd H a (.dT aJ)
theorem vm{X:Cx}{pins:List (Addr×Obj)}{σ:St}{H:Hp}{s:Shared}{a:Addr}(I:Inv X pins σ H s)(d:Cv H a):
 s.TypeIs (.ref a) "dict"∧(∀b,Value.ref a= .ref b→∃ob,s.heap.get? b=some ob∧ob.dict=none)∧(a==sysModules)=false:=by
 rcases d with⟨aJ,e⟩ | ⟨aJ,e⟩
 ·obtain⟨_,hd,vs,_,dd⟩:=kE I.hok e
  refine⟨dd.typeIs,fun b q=>?_,hd⟩
  cases q
  obtain⟨ob,_,_,h1,h2,_⟩:=dd
  exact⟨ob,h1,h2.2.1⟩
 ·obtain⟨_,hd,xs,_,dd⟩:=mw I.hok e
  refine⟨dd.typeIs,fun b q=>?_,hd⟩
  cases q
  obtain⟨ob,_,_,h1,h2,_⟩:=dd
  exact⟨ob,h1,h2.2.1⟩
section
variable{X:Cx}{pins:List (Addr×Obj)}{σ:St}{H:Hp}{s:Shared}{a:Addr}{y d:V}{u r:Value}{o:Option V}{A:Around}{E:Value→Shared→Prop}
theorem zg{Q:Value→Shared→Prop}(hu:A.units+1<cLine)(I:Inv X pins σ H s)(g:jZ H a y o)(ry:RelV y u)(h:∀w' s',Inv X pins σ H s'→RelV (o.getD .non) w'→Q w' s'):
 wpAny (model X.prog X.w) A (call (.builtin "dict.get") [.ref a,u]) Q E s:=by
 rcases g with⟨aJ,k,e,ey,l⟩ | ⟨aJ,k,b,e,ey,eb,l⟩
 ·subst ey
  obtain⟨z,hd,vs,rel,dd⟩:=kE I.hok e
  refine call_meetsIn PySem.F.slot_dict_get dd.typeIs PySem.F.entry_dict_get (PySem.F.args_dict_get_2 _ _) (meets_dict_get (bz X.prog X.w) a (kQ ry) hd) ⟨_,dd.mapOf,h _ _ (I.tok _) ?_⟩
  rw[l]
  exact(rel.val k).getD rfl
 ·subst ey
  cases (show u=Value.ref b from ry)
  obtain⟨z,hd,xs,rel,dd⟩:=mw I.hok e
  refine call_meetsIn PySem.F.slot_dict_get dd.typeIs PySem.F.entry_dict_get (PySem.F.args_dict_get_2 _ _) (meetsH_dict_get (tupleKind (bz X.prog X.w)) a b hd) ⟨tupleKind_room_in1 hu,k,xs,gX I.hok eb,dd,h _ _ (I.tok _) ?_⟩
  rw[l]
  exact(rel.val k).getD rfl
theorem zh{Q:Value→Shared→Prop}(hu:A.units+1<cLine)(I:Inv X pins σ H s)(g:jZ H a y o)(ry:RelV y u)(rd:RelV d r)(h:∀w' s',Inv X pins σ H s'→RelV (o.getD d) w'→Q w' s'):
 wpAny (model X.prog X.w) A (call (.builtin "dict.get") [.ref a,u,r]) Q E s:=by
 rcases g with⟨aJ,k,e,ey,l⟩ | ⟨aJ,k,b,e,ey,eb,l⟩
 ·subst ey
  obtain⟨z,hd,vs,rel,dd⟩:=kE I.hok e
  refine call_meetsIn PySem.F.slot_dict_get dd.typeIs PySem.F.entry_dict_get (PySem.F.args_dict_get_3 _ _ _) (meets_dict_get_default (bz X.prog X.w) a (kQ ry) hd r) ⟨_,dd.mapOf,h _ _ (I.tok _) ?_⟩
  rw[l]
  exact(rel.val k).getD rd
 ·subst ey
  cases (show u=Value.ref b from ry)
  obtain⟨z,hd,xs,rel,dd⟩:=mw I.hok e
  refine call_meetsIn PySem.F.slot_dict_get dd.typeIs PySem.F.entry_dict_get (PySem.F.args_dict_get_3 _ _ _) (meetsH_dict_get_default (tupleKind (bz X.prog X.w)) a b hd r) ⟨tupleKind_room_in1 hu,k,xs,gX I.hok eb,dd,h _ _ (I.tok _) ?_⟩
  rw[l]
  exact(rel.val k).getD rd
end
def AG(td ty:TE):TE:=fun σ H Q=>td σ H fun x H1=>∃a,x= .ref a∧Cv H1 a∧ty σ H1 fun y H2=>∃o,jZ H2 a y o∧Q (o.getD .non) H2
def AH(td ty tx:TE):TE:=fun σ H Q=>td σ H fun x H1=>∃a,x= .ref a∧Cv H1 a∧ty σ H1 fun y H2=>tx σ H2 fun z H3=>∃o,jZ H3 a y o∧Q (o.getD z) H3
section
variable{X:Cx}{o e f:Expr}{apos aM:Pos}{td ty tx:TE}
theorem vY(hu:X.A.units+1<cLine)(ho:PE X o td)(he:PE X e ty)(m:M1 X o "get" apos e aM):PE X (.Call (.Attribute o "get" apos) [e] [] aM) (AG td ty):=by
 intro pins s σ H Q I h
 refine wpAny_Call_method m.base m.few m.line PySem.F.plainAttrs_dict PySem.F.slot_dict_get PySem.F.type_dict_get (bV (ho pins s σ H _ I h) fun u s1 ⟨x,H1,I1,rx,a,ex,d,q1⟩=>?_)
 subst ex
 obtain rfl:u=Value.ref a:=rx
 obtain⟨t1,t2,_⟩:=vm I1 d
 refine⟨t1,t2,?_⟩
 rw[m.trees]
 refine Calls.callWith_builtin rfl (Calls.evalArgs_plain (Calls.spliced_cons (bV (he pins s1 σ H1 _ I1 q1) fun iv s2 ⟨y,H2,I2,ry,ov,g,q2⟩=>Calls.spliced_nil ?_)))
 exact zg hu I2 g ry fun w' s3 I3 w_=>⟨_,H2,I3,w_,q2⟩
theorem vZ(hu:X.A.units+1<cLine)(ho:PE X o td)(he:PE X e ty)(hf:PE X f tx)(m:M2 X o "get" apos e f aM):PE X (.Call (.Attribute o "get" apos) [e,f] [] aM) (AH td ty tx):=by
 intro pins s σ H Q I h
 refine wpAny_Call_method m.base m.few m.line PySem.F.plainAttrs_dict PySem.F.slot_dict_get PySem.F.type_dict_get (bV (ho pins s σ H _ I h) fun u s1 ⟨x,H1,I1,rx,a,ex,d,q1⟩=>?_)
 subst ex
 obtain rfl:u=Value.ref a:=rx
 obtain⟨t1,t2,_⟩:=vm I1 d
 refine⟨t1,t2,?_⟩
 rw[m.trees]
 refine Calls.callWith_builtin rfl (Calls.evalArgs_plain (Calls.spliced_cons (bV (he pins s1 σ H1 _ I1 q1) fun iv s2 ⟨y,H2,I2,ry,q2⟩=>
  Calls.spliced_cons (bV (hf pins s2 σ H2 _ I2 q2) fun fv s3 ⟨z,H3,I3,rz,ov,g,q3⟩=>Calls.spliced_nil ?_))))
 exact zh hu I3 g ry rz fun w' s4 I4 w_=>⟨_,H3,I4,w_,q3⟩
end
section
variable{X:Cx}{pins:List (Addr×Obj)}{σ:St}{H:Hp}{s:Shared}{a:Addr}{aJ:List (Key×V)}{A:Around}{E:Value→Shared→Prop}
end
section
variable{X:Cx}{pins:List (Addr×Obj)}{σ:St}{H:Hp}{s:Shared}{a:Addr}{y:V}{u:Value}{A:Around}{E:Value→Shared→Prop}
end
end L2
namespace L3
open PySem PySem.Spec L2
open PyProof.Rows hiding St
inductive Rs (α:Type) where
 |ok (a:α) | ex (n:Nat)
def M(α:Type):=Option (Rs α)
def M.ret{α:Type}(a:α):M α:=some (.ok a)
def M.bind{α β:Type}(m:M α)(k:α→M β):M β:=match m with
 |none=>none
 |some (.ex n)=>some (.ex n)
 |some (.ok a)=>k a
def M.stuck{α:Type}:M α:=none
def M.raise{α:Type}(n:Nat):M α:=some (.ex n)
instance:Monad M where
 pure:=M.ret
 bind:=M.bind
@[simp] theorem ao{α β:Type}(a:α)(k:α→M β):(M.ret a>>=k)=k a:=rfl
@[simp] theorem za{α β:Type}(a:α)(k:α→M β):((pure a:M α)>>=k)=k a:=rfl
@[simp] theorem zb{α β:Type}(n:Nat)(k:α→M β):(M.raise n>>=k)=M.raise n:=rfl
@[simp] theorem zc{α β:Type}(k:α→M β):((M.stuck:M α)>>=k)=M.stuck:=rfl
theorem M.cs{α:Type}(m:M α):m=M.stuck∨(∃n,m=M.raise n)∨∃a,m=M.ret a:=by
 match m with
 |none=>exact .inl rfl
 |some (.ex n)=>exact .inr (.inl ⟨n,rfl⟩)
 |some (.ok a)=>exact .inr (.inr ⟨a,rfl⟩)
theorem gB{α:Type}{a b:α}(h:M.ret a=M.ret b):a=b:=by
 have h:some (Rs.ok a)=some (Rs.ok b):=h
 cases h
 rfl
theorem wK{α:Type}{a:α}(h:M.stuck=M.ret a):False:=by
 have h:none=some (Rs.ok a):=h
 cases h
theorem wo{α:Type}{n:Nat}{a:α}(h:M.raise n=M.ret a):False:=by
 have h:some (Rs.ex n)=some (Rs.ok a):=h
 cases h
theorem e7{α β:Type}{m:M α}{k:α→M β}{r:β}(h:(m>>=k)=M.ret r):∃a,m=M.ret a∧k a=M.ret r:=by
 rcases m.cs with e | ⟨n,e⟩ | ⟨a,e⟩
 ·subst e;exact(wK h).elim
 ·subst e;exact(wo h).elim
 ·subst e;exact⟨a,rfl,h⟩
def rT(h:Heap)(ea D:Addr):Prop:=∃ox,h.get? ea=some ox∧ox.cls= .ref D
def y8(ea D:Addr):HO:= .ext fun h=>rT h ea D
inductive D where
 |non | bl (b:Bool) | int (i:Int) | str (x:Str) | raw (v:V) | exc (C:Addr) | scr (l:List Int) | tup (l:List D) | lst (l:List D)
 |dct (ks:List (List Key)) (l:List D) | dci (ks:List Key) (l:List D)
instance:Inhabited D:=⟨.non⟩
def lim:Nat:=4096
theorem cJ:lim<sizeLine:=by rw[sizeLine_eq];decide
mutual
def Den(K:W.Frag)(F:Hp):D→V→Prop
 | .non,v=>v= .non
 | .bl b,v=>v= .bl b
 | .int i,v=>v= .int i
 | .str x,v=>v= .str x∧x.length≤lim
 | .raw u,v=>v=u
 | .exc C,v=>∃ea,v= .ref ea∧F ea=some (y8 ea C)
 | .scr ns,v=>∃a,v= .ref a∧SqL K F a (ns.map V.int)∧ns.length≤lim
 | .tup ds,v=>∃a vs,v= .ref a∧F a=some (.tup vs)∧DenL K F ds vs∧ds.length≤lim
 | .lst ds,v=>∃a vs,v= .ref a∧F a=some (.lst vs)∧DenL K F ds vs∧ds.length≤lim
 | .dct ks ds,v=>∃a ob vs,v= .ref a∧F a=some (.frz ob (.dT (ks.zip vs)))∧DenL K F ds vs∧ks.length=ds.length∧ds.length≤lim
 | .dci ks ds,v=>∃a ob vs,v= .ref a∧F a=some (.frz ob (.dK (ks.zip vs)))∧DenL K F ds vs∧ks.length=ds.length∧ds.length≤lim
def DenL(K:W.Frag)(F:Hp):List D→List V→Prop
 |[],vs=>vs=[]
 |d::ds,vs=>∃v r,vs=v::r∧Den K F d v∧DenL K F ds r
end
theorem Same.rd{H H':Hp}{a:Addr}{u:HO}(e:Same H H')(h:Rd H a u):Rd H' a u:=by
 rcases h with h | ⟨o,h⟩
 ·exact .inl (e _ _ h)
 ·exact .inr ⟨o,e _ _ h⟩
theorem Same.tup{K:W.Frag}{H H':Hp}{a:Addr}{xs:List V}(e:Same H H')(h:SqT K H a xs):SqT K H' a xs:=by
 rcases h with h | h
 ·exact .inl (Same.rd e h)
 ·exact .inr h
section
variable{K:W.Frag}{F F':Hp}
mutual
theorem Den.mono(e:Same F F'):∀{d:D}{v:V},Den K F d v→Den K F' d v
 | .non,_,h=>h
 | .bl _,_,h=>h
 | .int _,_,h=>h
 | .str _,_,h=>h
 | .raw _,_,h=>h
 | .exc _,_,⟨a,h1,h2⟩=>⟨a,h1,e _ _ h2⟩
 | .scr _,_,⟨a,h1,h2,h3⟩=>⟨a,h1,Same.seq e h2,h3⟩
 | .tup _,_,⟨a,vs,h1,h2,h3,h4⟩=>⟨a,vs,h1,e _ _ h2,DenL.mono e h3,h4⟩
 | .lst _,_,⟨a,vs,h1,h2,h3,h4⟩=>⟨a,vs,h1,e _ _ h2,DenL.mono e h3,h4⟩
 | .dct _ _,_,⟨a,ob,vs,h1,h2,h3,h4⟩=>⟨a,ob,vs,h1,e _ _ h2,DenL.mono e h3,h4⟩
 | .dci _ _,_,⟨a,ob,vs,h1,h2,h3,h4⟩=>⟨a,ob,vs,h1,e _ _ h2,DenL.mono e h3,h4⟩
theorem DenL.mono(e:Same F F'):∀{ds:List D}{vs:List V},DenL K F ds vs→DenL K F' ds vs
 |[],_,h=>h
 |_::_,_,⟨v,r,h1,h2,h3⟩=>⟨v,r,h1,Den.mono e h2,DenL.mono e h3⟩
end
theorem DenL.nil:DenL K F [] []:=rfl
theorem DenL.cons{d:D}{v:V}{ds:List D}{vs:List V}(h:Den K F d v)(r:DenL K F ds vs):DenL K F (d::ds) (v::vs):=⟨v,vs,rfl,h,r⟩
theorem DenL.len:∀{ds:List D}{vs:List V},DenL K F ds vs→ds.length=vs.length
 |[],_,h=>by cases (show _=_ from h);rfl
 |_::ds,_,⟨v,r,h1,_,h3⟩=>by subst h1;rw[List.length_cons,List.length_cons,DenL.len h3]
theorem DenL.get:∀{ds:List D}{vs:List V}{i:Nat}{d:D},DenL K F ds vs→ds[i]? =some d→∃v,vs[i]? =some v∧Den K F d v
 |[],_,_,_,_,e=>by simp at e
 |d::ds,_,0,_,⟨v,r,h1,h2,h3⟩,e=>by subst h1;simp at e;subst e;exact⟨v,rfl,h2⟩
 |d::ds,_,i+1,_,⟨v,r,h1,h2,h3⟩,e=>by
  subst h1
  obtain⟨w,e1,e2⟩:=DenL.get (i:=i) h3 (by simpa using e)
  exact⟨w,by simpa using e1,e2⟩
theorem DenL.at:∀{ds:List D}{vs:List V}{i:Nat}{v:V},DenL K F ds vs→vs[i]? =some v→∃d,ds[i]? =some d∧Den K F d v
 |[],_,_,_,h,e=>by cases (show _=_ from h);simp at e
 |d::ds,_,0,_,⟨v,r,h1,h2,h3⟩,e=>by subst h1;simp at e;subst e;exact⟨d,rfl,h2⟩
 |d::ds,_,i+1,_,⟨v,r,h1,h2,h3⟩,e=>by
  subst h1
  obtain⟨w,e1,e2⟩:=DenL.at (i:=i) h3 (by simpa using e)
  exact⟨w,by simpa using e1,e2⟩
theorem DenL.append:∀{ds es:List D}{vs ws:List V},DenL K F ds vs→DenL K F es ws→DenL K F (ds++es) (vs++ws)
 |[],_,_,_,h,h'=>by cases (show _=_ from h);exact h'
 |d::ds,_,_,_,⟨v,r,h1,h2,h3⟩,h'=>by subst h1;exact⟨v,_,rfl,h2,DenL.append h3 h'⟩
theorem DenL.take:∀{ds:List D}{vs:List V}(n:Nat),DenL K F ds vs→DenL K F (ds.take n) (vs.take n)
 |_,_,0,_=>by simp[List.take];rfl
 |[],_,_+1,h=>by cases (show _=_ from h);rfl
 |d::ds,_,n+1,⟨v,r,h1,h2,h3⟩=>by subst h1;exact⟨v,_,rfl,h2,DenL.take n h3⟩
theorem DenL.drop:∀{ds:List D}{vs:List V}(n:Nat),DenL K F ds vs→DenL K F (ds.drop n) (vs.drop n)
 |_,_,0,h=>by simpa using h
 |[],_,_+1,h=>by cases (show _=_ from h);rfl
 |d::ds,_,n+1,⟨v,r,h1,h2,h3⟩=>by subst h1;exact DenL.drop n h3
theorem DenL.ints(ns:List Int):DenL K F (ns.map D.int) (ns.map V.int):=by
 induction ns with
 |nil=>rfl
 |cons n ns ih=>exact .cons rfl ih
end
structure Ext (F H F' H':Hp):Prop where
 hh:Same H H'
 ff:Same F F'
 fh:Same F' H'
 new:∀a,H a≠none→F' a=F a∨∃ts,H a=some (.tup ts)
theorem Ext.old{F H F' H':Hp}(e:Ext F H F' H'){a:Addr}{o:HO}(h:H a=some o)(hn:∀ts,o≠ .tup ts):F' a=F a:=by
 rcases e.new a (by rw[h];exact fun z=>nomatch z) with q | ⟨ts,q⟩
 ·exact q
 ·rw[h] at q;cases q;exact absurd rfl (hn ts)
theorem Ext.refl{F H:Hp}(h:Same F H):Ext F H F H:=⟨Same.refl _,Same.refl _,h,fun _ _=> .inl rfl⟩
theorem Ext.trans{F H F' H' F'' H'':Hp}(a:Ext F H F' H')(b:Ext F' H' F'' H''):Ext F H F'' H'':=
 ⟨a.hh.trans b.hh,a.ff.trans b.ff,b.fh,fun c hc=>by
  have:H' c≠none:=by
   cases q:H c with
   |none=>exact absurd q hc
   |some o=>rw[a.hh c o q];exact fun z=>nomatch z
  rcases a.new c hc with p | p
  ·rcases b.new c this with q | ⟨ts,q⟩
   ·exact .inl (q.trans p)
   ·cases z:H c with
    |none=>exact absurd z hc
    |some o=>
     rw[a.hh c o z] at q
     exact .inr ⟨ts,q⟩
  ·exact .inr p⟩
theorem Ext.lay{F H:Hp}{a:Addr}{o:HO}(h:Same F H)(n:H a=none):Ext F H (upd F a o) (upd H a o):=by
 have nf:F a=none:=Same.free h n
 refine⟨fun b u e=>?_,fun b u e=>?_,fun b u e=>?_,fun b hb=>?_⟩
 ·rw[ax (bC e n)];exact e
 ·rw[ax (bC e nf)];exact e
 ·by_cases q:b=a
  ·subst q;rw[aA] at e⊢;exact e
  ·rw[ax q] at e⊢;exact h b u e
 ·exact .inl (ax fun z=>hb (by rw[z];exact n))
theorem Ext.free{F H:Hp}{a:Addr}{o:HO}(h:Same F H)(n:H a=none):Ext F H F (upd H a o):=
 ⟨fun b u e=>by rw[ax (bC e n)];exact e,Same.refl _,fun b u e=>by rw[ax (bC (h b u e) n)];exact h b u e,fun _ _=> .inl rfl⟩
def WP(K:W.Frag)(Xw:Nat→Hp→Prop)(F H:Hp)(m:M D)(Q:VK):Prop:=
 match m with
 |none=>False
 |some (.ok d)=>∀v H' F',Ext F H F' H'→Den K F' d v→Q v H'
 |some (.ex n)=>∀F' H',Ext F H F' H'→Xw n H'
def WPL(K:W.Frag)(Xw:Nat→Hp→Prop)(F H:Hp)(m:M (List D))(Q:List V→Hp→Prop):Prop:=
 match m with
 |none=>False
 |some (.ok ds)=>∀vs H' F',Ext F H F' H'→DenL K F' ds vs→Q vs H'
 |some (.ex n)=>∀F' H',Ext F H F' H'→Xw n H'
def WPB(Xw:Nat→Hp→Prop)(F H:Hp)(m:M Bool)(Q:Bool→Hp→Prop):Prop:=
 match m with
 |none=>False
 |some (.ok b)=>∀H' F',Ext F H F' H'→Q b H'
 |some (.ex n)=>∀F' H',Ext F H F' H'→Xw n H'
section
variable{K:W.Frag}{Xw:Nat→Hp→Prop}{F F' H H':Hp}{Q:VK}
theorem WP.ext{m:M D}(e:Ext F H F' H')(h:WP K Xw F H m Q):WP K Xw F' H' m Q:=by
 match m,h with
 |none,h=>exact h
 |some (.ok d),h=>exact fun v H2 F2 e2 q=>h v H2 F2 (e.trans e2) q
 |some (.ex n),h=>exact fun F2 H2 e2=>h F2 H2 (e.trans e2)
theorem WPL.ext{m:M (List D)}{Q:List V→Hp→Prop}(e:Ext F H F' H')(h:WPL K Xw F H m Q):WPL K Xw F' H' m Q:=by
 match m,h with
 |none,h=>exact h
 |some (.ok d),h=>exact fun v H2 F2 e2 q=>h v H2 F2 (e.trans e2) q
 |some (.ex n),h=>exact fun F2 H2 e2=>h F2 H2 (e.trans e2)
theorem WPB.ext{m:M Bool}{Q:Bool→Hp→Prop}(e:Ext F H F' H')(h:WPB Xw F H m Q):WPB Xw F' H' m Q:=by
 match m,h with
 |none,h=>exact h
 |some (.ok d),h=>exact fun H2 F2 e2=>h H2 F2 (e.trans e2)
 |some (.ex n),h=>exact fun F2 H2 e2=>h F2 H2 (e.trans e2)
theorem WP.fin{d:D}{v:V}(h:WP K Xw F H (M.ret d) Q)(e:Ext F H F' H')(q:Den K F' d v):Q v H':=h v H' F' e q
theorem WP.now{d:D}{v:V}(h:WP K Xw F H (M.ret d) Q)(s:Same F H)(q:Den K F d v):Q v H:=h v H F (Ext.refl s) q
theorem WP.bind{m:M D}{k:D→M D}(h:WP K Xw F H (m>>=k) Q):WP K Xw F H m fun v H1=>∃F1 d,Ext F H F1 H1∧Den K F1 d v∧WP K Xw F1 H1 (k d) Q:=by
 match m,h with
 |none,h=>exact h
 |some (.ok d),h=>exact fun v H2 F2 e2 q=>⟨F2,d,e2,q,WP.ext e2 (show WP K Xw F H (k d) Q from h)⟩
 |some (.ex n),h=>exact h
theorem WP.bindL{m:M (List D)}{k:List D→M D}(h:WP K Xw F H (m>>=k) Q):WPL K Xw F H m fun vs H1=>∃F1 ds,Ext F H F1 H1∧DenL K F1 ds vs∧WP K Xw F1 H1 (k ds) Q:=by
 match m,h with
 |none,h=>exact h
 |some (.ok d),h=>exact fun v H2 F2 e2 q=>⟨F2,d,e2,q,WP.ext e2 (show WP K Xw F H (k d) Q from h)⟩
 |some (.ex n),h=>exact h
theorem WP.bindB{m:M Bool}{k:Bool→M D}(h:WP K Xw F H (m>>=k) Q):WPB Xw F H m fun b H1=>∃F1,Ext F H F1 H1∧WP K Xw F1 H1 (k b) Q:=by
 match m,h with
 |none,h=>exact h
 |some (.ok d),h=>exact fun H2 F2 e2=>⟨F2,e2,WP.ext e2 (show WP K Xw F H (k d) Q from h)⟩
 |some (.ex n),h=>exact h
theorem WPB.bind{m:M D}{k:D→M Bool}{Q:Bool→Hp→Prop}(h:WPB Xw F H (m>>=k) Q):WP K Xw F H m fun v H1=>∃F1 d,Ext F H F1 H1∧Den K F1 d v∧WPB Xw F1 H1 (k d) Q:=by
 match m,h with
 |none,h=>exact h
 |some (.ok d),h=>exact fun v H2 F2 e2 q=>⟨F2,d,e2,q,WPB.ext e2 (show WPB Xw F H (k d) Q from h)⟩
 |some (.ex n),h=>exact h
theorem WPB.bindB{m:M Bool}{k:Bool→M Bool}{Q:Bool→Hp→Prop}(h:WPB Xw F H (m>>=k) Q):WPB Xw F H m fun b H1=>∃F1,Ext F H F1 H1∧WPB Xw F1 H1 (k b) Q:=by
 match m,h with
 |none,h=>exact h
 |some (.ok d),h=>exact fun H2 F2 e2=>⟨F2,e2,WPB.ext e2 (show WPB Xw F H (k d) Q from h)⟩
 |some (.ex n),h=>exact h
theorem WPL.bind{m:M D}{k:D→M (List D)}{Q:List V→Hp→Prop}(h:WPL K Xw F H (m>>=k) Q):WP K Xw F H m fun v H1=>∃F1 d,Ext F H F1 H1∧Den K F1 d v∧WPL K Xw F1 H1 (k d) Q:=by
 match m,h with
 |none,h=>exact h
 |some (.ok d),h=>exact fun v H2 F2 e2 q=>⟨F2,d,e2,q,WPL.ext e2 (show WPL K Xw F H (k d) Q from h)⟩
 |some (.ex n),h=>exact h
theorem WPL.bindL{m:M (List D)}{k:List D→M (List D)}{Q:List V→Hp→Prop}(h:WPL K Xw F H (m>>=k) Q):WPL K Xw F H m fun vs H1=>∃F1 ds,Ext F H F1 H1∧DenL K F1 ds vs∧WPL K Xw F1 H1 (k ds) Q:=by
 match m,h with
 |none,h=>exact h
 |some (.ok d),h=>exact fun v H2 F2 e2 q=>⟨F2,d,e2,q,WPL.ext e2 (show WPL K Xw F H (k d) Q from h)⟩
 |some (.ex n),h=>exact h
theorem WP.mono{m:M D}{Q':VK}(h:WP K Xw F H m Q)(k:∀v H',Q v H'→Q' v H'):WP K Xw F H m Q':=by
 match m,h with
 |none,h=>exact h
 |some (.ok d),h=>exact fun v H2 F2 e2 q=>k _ _ (h v H2 F2 e2 q)
 |some (.ex n),h=>exact h
theorem WPL.mono{m:M (List D)}{Q Q':List V→Hp→Prop}(h:WPL K Xw F H m Q)(k:∀v H',Q v H'→Q' v H'):WPL K Xw F H m Q':=by
 match m,h with
 |none,h=>exact h
 |some (.ok d),h=>exact fun v H2 F2 e2 q=>k _ _ (h v H2 F2 e2 q)
 |some (.ex n),h=>exact h
theorem WPB.mono{m:M Bool}{Q Q':Bool→Hp→Prop}(h:WPB Xw F H m Q)(k:∀v H',Q v H'→Q' v H'):WPB Xw F H m Q':=by
 match m,h with
 |none,h=>exact h
 |some (.ok d),h=>exact fun H2 F2 e2=>k _ _ (h H2 F2 e2)
 |some (.ex n),h=>exact h
end
inductive C where
 |lst (l:List D) | dct (ks:List (List Key)) (l:List D) | dci (ks:List Key) (l:List D)
def C.d:C→D
 | .lst ds=> .lst ds
 | .dct ks ds=> .dct ks ds
 | .dci ks ds=> .dci ks ds
inductive Sl where
 |fz (d:D) | ow (c:C)
abbrev aY:=List (Option Sl)
def DenC(K:W.Frag)(F:Hp):C→HO→Prop
 | .lst ds,o=>∃vs,o= .lst vs∧DenL K F ds vs∧ds.length≤lim
 | .dct ks ds,o=>∃vs,o= .dT (ks.zip vs)∧DenL K F ds vs∧ks.length=ds.length∧ds.length≤lim
 | .dci ks ds,o=>∃vs,o= .dK (ks.zip vs)∧DenL K F ds vs∧ks.length=ds.length∧ds.length≤lim
theorem DenC.mono{K:W.Frag}{F F':Hp}(e:Same F F'):∀{c:C}{o:HO},DenC K F c o→DenC K F' c o
 | .lst _,_,⟨vs,h1,h2,h3⟩=>⟨vs,h1,DenL.mono e h2,h3⟩
 | .dct _ _,_,⟨vs,h1,h2,h3⟩=>⟨vs,h1,DenL.mono e h2,h3⟩
 | .dci _ _,_,⟨vs,h1,h2,h3⟩=>⟨vs,h1,DenL.mono e h2,h3⟩
theorem DenC.notup{K:W.Frag}{F:Hp}:∀{c:C}{o:HO},DenC K F c o→∀ts,o≠ .tup ts
 | .lst _,_,⟨_,h1,_⟩,ts,z=>by rw[h1] at z;cases z
 | .dct _ _,_,⟨_,h1,_⟩,ts,z=>by rw[h1] at z;cases z
 | .dci _ _,_,⟨_,h1,_⟩,ts,z=>by rw[h1] at z;cases z
def fL(ob:Obj):HO→HO
 | .dT aJ=> .frz ob (.dT aJ)
 | .dK aJ=> .frz ob (.dK aJ)
 |o=>o
theorem DenC.den{K:W.Frag}{F F':Hp}{a:Addr}{ob:Obj}:∀{c:C}{o:HO},DenC K F c o→Same F F'→F' a=some (fL ob o)→Den K F' c.d (.ref a)
 | .lst _,_,⟨vs,h1,h2,h3⟩,e,q=>by subst h1;exact⟨a,vs,rfl,q,DenL.mono e h2,h3⟩
 | .dct _ _,_,⟨vs,h1,h2,h3⟩,e,q=>by subst h1;exact⟨a,ob,vs,rfl,q,DenL.mono e h2,h3⟩
 | .dci _ _,_,⟨vs,h1,h2,h3⟩,e,q=>by subst h1;exact⟨a,ob,vs,rfl,q,DenL.mono e h2,h3⟩
def DenO(K:W.Frag)(F H:Hp):Sl→V→Prop
 | .fz d,v=>Den K F d v
 | .ow c,v=>∃a o,v= .ref a∧H a=some o∧F a=none∧DenC K F c o
structure StE (K:W.Frag) (F H:Hp) (σ:St) (ρ:aY):Prop where
 fh:Same F H
 den:∀(i:Nat) (sl:Sl),ρ[i]? =some (some sl)→∃v,σ[i]? =some (some v)∧DenO K F H sl v
theorem DenO.ext{K:W.Frag}{F H F' H':Hp}(e:Ext F H F' H'):∀{sl:Sl}{v:V},DenO K F H sl v→DenO K F' H' sl v
 | .fz _,_,h=>Den.mono e.ff h
 | .ow _,_,⟨a,o,h1,h2,h3,h4⟩=>⟨a,o,h1,e.hh _ _ h2,by rw[e.old h2 h4.notup];exact h3,DenC.mono e.ff h4⟩
theorem StE.ext{K:W.Frag}{F H F' H':Hp}{σ:St}{ρ:aY}(s:StE K F H σ ρ)(e:Ext F H F' H'):StE K F' H' σ ρ:=
 ⟨e.fh,fun i sl q=>let ⟨v,h1,h2⟩:=s.den i sl q;⟨v,h1,h2.ext e⟩⟩
abbrev DE:=aY→M D
abbrev DT:=aY→M Bool
abbrev DA:=aY→M (List D)
def tD(K:W.Frag)(Xw:Nat→Hp→Prop)(δ:DE):TE:=fun σ H Q=>∃F ρ,StE K F H σ ρ∧WP K Xw F H (δ ρ) Q
def Ey(K:W.Frag)(Xw:Nat→Hp→Prop)(δ:DT):TT:=fun σ H Q=>∃F ρ,StE K F H σ ρ∧WPB Xw F H (δ ρ) Q
def Fv(K:W.Frag)(Xw:Nat→Hp→Prop)(δ:DA):TA:=fun σ H Q=>∃F ρ,StE K F H σ ρ∧WPL K Xw F H (δ ρ) Q
def PD(X:Cx)(Xw:Nat→Hp→Prop)(e:Expr)(δ:DE):Prop:=PE X e (tD X.K Xw δ)
def oT(X:Cx)(Xw:Nat→Hp→Prop)(e:Expr)(δ:DT):Prop:=PT X e (Ey X.K Xw δ)
def j0(X:Cx)(Xw:Nat→Hp→Prop)(es:List Expr)(δ:DA):Prop:=PA X es (Fv X.K Xw δ)
theorem PE.weak{X:Cx}{e:Expr}{t t':TE}(h:PE X e t)(k:∀σ H Q,t' σ H Q→t σ H Q):PE X e t':=fun pins s σ H Q I w=>h pins s σ H Q I (k σ H Q w)
theorem PT.weak{X:Cx}{e:Expr}{t t':TT}(h:PT X e t)(k:∀σ H Q,t' σ H Q→t σ H Q):PT X e t':=fun pins s σ H Q I w=>h pins s σ H Q I (k σ H Q w)
theorem PA.weak{X:Cx}{e:List Expr}{t t':TA}(h:PA X e t)(k:∀σ H Q,t' σ H Q→t σ H Q):PA X e t':=fun pos pins s σ H Q I w=>h pos pins s σ H Q I (k σ H Q w)
def dV(i:Nat):DE:=fun ρ=>match ρ[i]? with
 |some (some (.fz d))=>M.ret d
 |_=>M.stuck
def dC(d:D):DE:=fun _=>M.ret d
def d1(g:D→M D)(a:DE):DE:=fun ρ=>a ρ>>=g
def d2(g:D→D→M D)(a b:DE):DE:=fun ρ=>a ρ>>=fun x=>b ρ>>=fun y=>g x y
def aN:DA:=fun _=>M.ret []
def aC(a:DE)(r:DA):DA:=fun ρ=>a ρ>>=fun x=>r ρ>>=fun xs=>M.ret (x::xs)
def dA(g:List D→M D)(a:DA):DE:=fun ρ=>a ρ>>=g
def uF:D→M Bool
 | .bl b=>M.ret b
 |_=>M.stuck
def da(a:DE):DT:=fun ρ=>a ρ>>=uF
def ju(a b:DT):DT:=fun ρ=>a ρ>>=fun x=>if x then M.ret true else b ρ
def b7(a:DT):DT:=fun ρ=>a ρ>>=fun x=>M.ret (!x)
def yF(c:DT)(a b:DE):DE:=fun ρ=>c ρ>>=fun x=>if x then a ρ else b ρ
def de(a b:DE):DE:=fun ρ=>a ρ>>=fun x=>uF x>>=fun c=>if c then b ρ else M.ret (.bl false)
def yH(a:DE):DE:=fun ρ=>a ρ>>=fun x=>uF x>>=fun c=>M.ret (.bl (!c))
section
variable{X:Cx}{Xw:Nat→Hp→Prop}{a b:Expr}{δa δb:DE}{pos:Pos}
theorem ae{i:Nat}{x:Str}(h:PE X (.Name x pos) (md i)):PD X Xw (.Name x pos) (dV i):=PE.weak h fun σ H Q ⟨F,ρ,s,w⟩=>by
 unfold dV at w
 split at w
 ·rename_i d e
  obtain⟨v,h1,h2⟩:=s.den i _ e
  exact⟨v,h1,WP.now w s.fh h2⟩
 ·exact w.elim
theorem eU{e:Expr}{d:D}{v:V}(h:PE X e (tC v))(hd:∀F,Den X.K F d v):PD X Xw e (dC d):=PE.weak h fun σ H Q ⟨F,ρ,s,w⟩=>WP.now w s.fh (hd F)
theorem aj{i j}:PD X Xw (.Constant (.int i) j pos) (dC (.int i)):=eU Ah fun _=>rfl
theorem cY{i j}:PD X Xw (.Constant (.bool i) j pos) (dC (.bl i)):=eU BY fun _=>rfl
theorem di{j}:PD X Xw (.Constant .none j pos) (dC .non):=eU Ai fun _=>rfl
theorem aP{x j}(h:x.length≤lim:=by decide):PD X Xw (.Constant (.str x) j pos) (dC (.str x)):=eU Al fun _=>⟨rfl,h⟩
def rV(K:W.Frag)(r:R2)(g:D→D→M D):Prop:=∀(Xw:Nat→Hp→Prop) (F H:Hp) (x y:V) (dx dy:D) (Q:VK),Same F H→Den K F dx x→Den K F dy y→WP K Xw F H (g dx dy) Q→r x y H Q
theorem oH{r:R2}{g:D→D→M D}(hg:rV X.K r g):∀σ H Q,tD X.K Xw (d2 g δa δb) σ H Q→Ck r (tD X.K Xw δa) (tD X.K Xw δb) σ H Q:=fun σ H Q ⟨F,ρ,s,w⟩=>by
 refine⟨F,ρ,s,WP.mono (WP.bind w) fun v H1 ⟨F1,d,e1,q1,w1⟩=>?_⟩
 refine⟨F1,ρ,s.ext e1,WP.mono (WP.bind w1) fun u H2 ⟨F2,d',e2,q2,w2⟩=>?_⟩
 exact hg Xw F2 H2 v u d d' Q e2.fh (Den.mono e2.ff q1) q2 w2
theorem gM{op:Operator}{r:R2}{g:D→D→M D}(ho:OpR X (binaryOp op) r)(hg:rV X.K r g)(ha:PD X Xw a δa)(hb:PD X Xw b δb):PD X Xw (.BinOp a op b pos) (d2 g δa δb):=
 PE.weak (B0 ho ha hb) (oH hg)
theorem nY{op:CmpOp}{r:R2}{g:D→D→M D}(ho:OpR X (compareOp op) r)(hg:rV X.K r g)(ha:PD X Xw a δa)(hb:PD X Xw b δb)(hm:behindInMarks op b=false:=by first | exact vF _ | rfl):PD X Xw (.Compare a [op] [b] pos) (d2 g δa δb):=
 PE.weak (yf ho ha hb hm) (oH hg)
theorem kj{op:CmpOp}{r:R2}{g:D→D→M D}(ho:OpR X (compareOp op) r)(hg:rV X.K r g)(ha:PD X Xw a δa)(hb:PD X Xw b δb)(hm:behindInMarks op b=false:=by first | exact vF _ | rfl):oT X Xw (.Compare a [op] [b] pos) (da (d2 g δa δb)):=
 PT.weak (yq ho ha hb hm) fun σ H Q ⟨F,ρ,s,w⟩=>by
  refine oH hg σ H _ ⟨F,ρ,s,WP.mono (WPB.bind w) fun v H1 ⟨F1,d,e1,q1,w1⟩=>?_⟩
  cases d with
  |bl k=>exact⟨k,q1,w1 _ _ (Ext.refl e1.fh)⟩
  |_=>exact w1.elim
theorem sJ{r:R2}{g:D→D→M D}(hr:A4 X r)(hg:rV X.K r g)(ha:PD X Xw a δa)(hb:PD X Xw b δb)(hs:gm b:=by intro _ _;rfl):PD X Xw (.Subscript a b pos) (d2 g δa δb):=
 PE.weak (BZ hr ha hb hs) (oH hg)
theorem af:j0 X Xw [] aN:=PA.weak nW fun σ H Q ⟨F,ρ,s,w⟩=>w [] H F (Ext.refl s.fh) rfl
theorem aa{es:List Expr}{δs:DA}(ha:PD X Xw a δa)(hr:j0 X Xw es δs)(hs:starEach (a::es) X.env=(false,eval a X.env)::starEach es X.env:=by rfl):j0 X Xw (a::es) (aC δa δs):=
 PA.weak (nV ha hr hs) fun σ H Q ⟨F,ρ,s,w⟩=>by
  refine⟨F,ρ,s,WP.mono (WPL.bind w) fun v H1 ⟨F1,d,e1,q1,w1⟩=>?_⟩
  refine⟨F1,ρ,s.ext e1,WPL.mono (WPL.bindL w1) fun vs H2 ⟨F2,ds,e2,q2,w2⟩=>?_⟩
  exact w2 _ _ _ (Ext.refl e2.fh) (.cons (Den.mono e2.ff q1) q2)
def aU(ds:List D):M D:=if ds.length≤lim then M.ret (.tup ds) else M.stuck
def dw(ds:List D):M D:=if ds.length≤lim then M.ret (.lst ds) else M.stuck
theorem qW{ds:List D}{f:List D→D}{Q:VK}{F H:Hp}(w:WP X.K Xw F H (if ds.length≤lim then M.ret (f ds) else M.stuck) Q):ds.length≤lim∧WP X.K Xw F H (M.ret (f ds)) Q:=by
 split at w
 ·rename_i h;exact⟨h,w⟩
 ·exact w.elim
theorem aV{x1}{es:List Expr}{δs:DA}(h:j0 X Xw es δs):PD X Xw (.Tuple es x1 pos) (dA aU δs):=PE.weak (Am h) fun σ H Q ⟨F,ρ,s,w⟩=>by
 refine⟨F,ρ,s,WPL.mono (WP.bindL w) fun vs H1 ⟨F1,ds,e1,q1,w1⟩=>?_⟩
 obtain⟨hl,w1⟩:=qW (X:=X) w1
 have hv:=q1.len
 refine⟨by have:=cJ;omega,fun p hp=>WP.fin w1 (Ext.lay e1.fh hp) ⟨p,vs,rfl,aA,DenL.mono (Ext.lay e1.fh hp).ff q1,hl⟩⟩
theorem g0{es:List Expr}{δs:DA}(h:j0 X Xw es δs):PD X Xw (.List es pos) (dA dw δs):=PE.weak (v9 h) fun σ H Q ⟨F,ρ,s,w⟩=>by
 refine⟨F,ρ,s,WPL.mono (WP.bindL w) fun vs H1 ⟨F1,ds,e1,q1,w1⟩=>?_⟩
 obtain⟨hl,w1⟩:=qW (X:=X) w1
 have hv:=q1.len
 refine⟨by have:=cJ;omega,fun p hp=>WP.fin w1 (Ext.lay e1.fh hp) ⟨p,vs,rfl,aA,DenL.mono (Ext.lay e1.fh hp).ff q1,hl⟩⟩
end
def ItD(K:W.Frag)(F:Hp)(J:It)(ds:List D):Prop:=∀(F' H':Hp) (i:Nat),Same F F'→Same F' H'→
 (∀d,ds[i]? =some d→J.go i H'∧∀x H'',J.yld i H' x H''→∃F'',Ext F' H' F'' H''∧Den K F'' d x)∧(ds.length≤i→J.stop i H')
theorem ItD.mono{K:W.Frag}{F F1:Hp}{J:It}{ds:List D}(h:ItD K F J ds)(e:Same F F1):ItD K F1 J ds:=fun F' H' i s1 s2=>h F' H' i (e.trans s1) s2
def WPI(K:W.Frag)(Xw:Nat→Hp→Prop)(F H:Hp)(m:M (List D))(R:It→Hp→Prop):Prop:=
 match m with
 |none=>False
 |some (.ok ds)=>∀J H' F',Ext F H F' H'→ItD K F' J ds→R J H'
 |some (.ex n)=>∀F' H',Ext F H F' H'→Xw n H'
def G2(K:W.Frag)(Xw:Nat→Hp→Prop)(δ:DA):TI:=fun σ H R=>∃F ρ,StE K F H σ ρ∧WPI K Xw F H (δ ρ) R
def yC(X:Cx)(Xw:Nat→Hp→Prop)(tg iter:Expr)(δ:DA):Prop:=PI X tg iter (G2 X.K Xw δ)
theorem PI.weak{X:Cx}{tg e:Expr}{t t':TI}(h:PI X tg e t)(k:∀σ H Q,t' σ H Q→t σ H Q):PI X tg e t':=fun pins s σ H Q I w=>h pins s σ H Q I (k σ H Q w)
theorem WPI.bind{K:W.Frag}{Xw:Nat→Hp→Prop}{F H:Hp}{m:M D}{k:D→M (List D)}{R:It→Hp→Prop}(h:WPI K Xw F H (m>>=k) R):
 WP K Xw F H m fun v H1=>∃F1 d,Ext F H F1 H1∧Den K F1 d v∧WPI K Xw F1 H1 (k d) R:=by
 match m,h with
 |none,h=>exact h
 |some (.ok d),h=>
  refine fun v H2 F2 e2 q=>⟨F2,d,e2,q,?_⟩
  have h:WPI K Xw F H (k d) R:=h
  show WPI K Xw F2 H2 (k d) R
  match k d,h with
  |none,h=>exact h
  |some (.ok ds),h=>exact fun J H3 F3 e3 q3=>h J H3 F3 (e2.trans e3) q3
  |some (.ex n),h=>exact fun F3 H3 e3=>h F3 H3 (e2.trans e3)
 |some (.ex n),h=>exact h
theorem WPI.bindL{K:W.Frag}{Xw:Nat→Hp→Prop}{F H:Hp}{m:M (List D)}{k:List D→M (List D)}{R:It→Hp→Prop}(h:WPI K Xw F H (m>>=k) R):
 WPL K Xw F H m fun v H1=>∃F1 d,Ext F H F1 H1∧DenL K F1 d v∧WPI K Xw F1 H1 (k d) R:=by
 match m,h with
 |none,h=>exact h
 |some (.ok d),h=>
  refine fun v H2 F2 e2 q=>⟨F2,d,e2,q,?_⟩
  have h:WPI K Xw F H (k d) R:=h
  show WPI K Xw F2 H2 (k d) R
  match k d,h with
  |none,h=>exact h
  |some (.ok ds),h=>exact fun J H3 F3 e3 q3=>h J H3 F3 (e2.trans e3) q3
  |some (.ex n),h=>exact fun F3 H3 e3=>h F3 H3 (e2.trans e3)
 |some (.ex n),h=>exact h
def lstM:D→M (List D)
 | .lst ds=>M.ret ds
 |_=>M.stuck
def EI:D→M (List D)
 | .tup ds=>M.ret ds
 |_=>M.stuck
def xn(a:DE):DA:=fun ρ=>a ρ>>=lstM
def dH(a:DE):DA:=fun ρ=>a ρ>>=EI
theorem vp{K:W.Frag}{F:Hp}{a:Addr}{vs:List V}{ds:List D}(h:SqL K F a vs)(hd:DenL K F ds vs):ItD K F (CW K a) ds:=fun F' H' i s1 s2=>by
 have hs:=Same.seq s2 (Same.seq s1 h)
 refine⟨fun d e=>?_,fun hl=>⟨vs,hs,by rw[←hd.len];exact hl⟩⟩
 obtain⟨v,e1,q⟩:=hd.get e
 refine⟨⟨vs,v,hs,e1⟩,fun x H'' y=>?_⟩
 obtain⟨e2,y⟩:=y
 subst e2
 have:=y vs hs
 rw[e1] at this
 cases this
 exact⟨F',Ext.refl s2,Den.mono s1 q⟩
theorem xG{K:W.Frag}{F:Hp}{a:Addr}{vs:List V}{ds:List D}(h:SqT K F a vs)(hd:DenL K F ds vs):ItD K F (CY K a) ds:=fun F' H' i s1 s2=>by
 have hs:=Same.tup s2 (Same.tup s1 h)
 refine⟨fun d e=>?_,fun hl=>⟨vs,hs,by rw[←hd.len];exact hl⟩⟩
 obtain⟨v,e1,q⟩:=hd.get e
 refine⟨⟨vs,v,hs,e1⟩,fun x H'' y=>?_⟩
 obtain⟨e2,y⟩:=y
 subst e2
 have:=y vs hs
 rw[e1] at this
 cases this
 exact⟨F',Ext.refl s2,Den.mono s1 q⟩
def fC(lo:Int)(n:Nat):List D:=(List.range n).map fun(i:Nat)=>D.int (lo+(i:Int))
theorem tR{K:W.Frag}{F:Hp}(lo:Int)(n:Nat):ItD K F (Cw lo n) (fC lo n):=fun F' H' i s1 s2=>by
 refine⟨fun d e=>?_,fun hl=>show n≤i by simpa[fC] using hl⟩
 unfold fC at e
 rw[List.getElem?_map] at e
 have hi:i<n:=by
  by_cases hi:i<n
  ·exact hi
  ·rw[List.getElem?_eq_none (by simpa using hi)] at e;cases e
 rw[List.getElem?_range hi] at e
 cases e
 refine⟨hi,fun x H'' y=>?_⟩
 obtain⟨e2,y⟩:=y
 subst e2 y
 exact⟨F',Ext.refl s2,rfl⟩
section
variable{X:Cx}{Xw:Nat→Hp→Prop}{tg l:Expr}{δ:DE}{pos:Pos}
theorem pV(h:PD X Xw l δ):yC X Xw tg l (xn δ):=PI.weak (yi h) fun σ H R ⟨F,ρ,s,w⟩=>by
 refine⟨F,ρ,s,WP.mono (WPI.bind w) fun v H1 ⟨F1,d,e1,q1,w1⟩=>?_⟩
 cases d with
 |lst ds=>
  obtain⟨a,vs,h1,h2,h3,h4⟩:=q1
  exact⟨a,h1,⟨vs,Same.seq e1.fh (SqL.of h2)⟩,w1 _ _ _ (Ext.refl e1.fh) (vp (SqL.of h2) h3)⟩
 |_=>exact w1.elim
theorem cZ(h:PD X Xw l δ):yC X Xw tg l (dH δ):=PI.weak (Aq h) fun σ H R ⟨F,ρ,s,w⟩=>by
 refine⟨F,ρ,s,WP.mono (WPI.bind w) fun v H1 ⟨F1,d,e1,q1,w1⟩=>?_⟩
 cases d with
 |tup ds=>
  obtain⟨a,vs,h1,h2,h3,h4⟩:=q1
  exact⟨a,h1,⟨vs,Same.tup e1.fh (SqT.of h2)⟩,w1 _ _ _ (Ext.refl e1.fh) (xG (SqT.of h2) h3)⟩
 |_=>exact w1.elim
def d9:List D→M (List D)
 |[.int j]=>if -4096≤j∧j≤4096 then M.ret (fC 0 j.toNat) else M.stuck
 |_=>M.stuck
theorem DenL.one{K:W.Frag}{F:Hp}{d:D}{vs:List V}(h:DenL K F [d] vs):∃v,vs=[v]∧Den K F d v:=by
 obtain⟨v,r,h1,h2,h3⟩:=h
 cases (show r=[] from h3)
 exact⟨v,h1,h2⟩
theorem DenL.two{K:W.Frag}{F:Hp}{d d':D}{vs:List V}(h:DenL K F [d,d'] vs):∃v v',vs=[v,v']∧Den K F d v∧Den K F d' v':=by
 obtain⟨v,r,h1,h2,h3⟩:=h
 obtain⟨v',h4,h5⟩:=h3.one
 subst h4
 exact⟨v,v',h1,h2,h5⟩
theorem cS{a:Expr}{δs:DA}{p:Pos}(hg:Gl X "range")(hm:X.mg "range"=none)(ha:j0 X Xw [a] δs)(hs:starEach [a] X.env=[(false,eval a X.env)]:=by rfl):yC X Xw tg (.Call (.Name "range" p) [a] [] pos) (fun ρ=>δs ρ>>=d9):=
 PI.weak (uo hg hm ha hs) fun σ H R ⟨F,ρ,s,w⟩=>by
  refine⟨F,ρ,s,WPL.mono (WPI.bindL w) fun vs H1 ⟨F1,ds,e1,q1,w1⟩=>?_⟩
  unfold d9 at w1
  split at w1
  ·rename_i j
   obtain⟨v,h1,h2⟩:=q1.one
   cases (show v=_ from h2)
   split at w1
   ·exact⟨j,h1,by omega,by omega,w1 _ _ _ (Ext.refl e1.fh) (tR 0 _)⟩
   ·exact w1.elim
  ·exact w1.elim
end
def bY(tg N:List Str):List Str:=N.map fun y=>if tg.contains y then y++(" ":Str) else y
def gF(X:Cx)(scope:Scope)(tn:List Str)(pins:List (Addr×Obj))(cl:List (Str×Addr))(C:Addr)(fp:List Addr)(s₂:Shared)(H:Hp):Cx:=
 {X with N:=tn++bY tn X.N,s₀:=s₂,H₀:=H,env:=compEnvC scope cl C X.env,outer:=X.stack,ex:=fp,fn:=fun _=>false,pn:=X.pn++pins,xe:=fun _ _=>False}
structure CompSc (X:Cx) (scope:Scope) (tn:List Str):Prop where
 kind:scope.kind= .function
 nocell:∀y∈scope.names,y.2≠ .cell
 names:∀y∈scope.names,y.2= .local→scope.names.lookup y.1=some .local
 frees:∀y∈scope.names,y.2= .free→X.env.kindOf y.1=some .cell∨X.env.kindOf y.1=some .free
 vis:∀p∈(bY tn X.N).zip X.N,scope.names.lookup p.1=none∨(p.1=p.2∧scope.names.lookup p.1=some .free)
theorem gS{env:Env}:∀(names:List (Str×NameKind)) (acc:List (Str×Addr)),(∀y∈names,y.2= .free→∃c,env.cells.lookup y.1=some c)→
 (∀x c,acc.lookup x=some c→env.cells.lookup x=some c)→
 ∃cl,(forIn names acc (fun (x:Str×NameKind) (r:List (Str×Addr))=>do
   let __x:=x
   if (__x.2==NameKind.free)=true then do let c←cellOf env __x.1;pure (ForInStep.yield ((__x.1,c)::r)) else pure (ForInStep.yield r)):Sem (List (Str×Addr)))=pure cl∧
  (∀x c,cl.lookup x=some c→env.cells.lookup x=some c)∧(∀x c,acc.lookup x=some c→∃c',cl.lookup x=some c')∧(∀x,names.lookup x=some .free→∃c,cl.lookup x=some c)
 |[],acc,_,h2=>⟨acc,rfl,h2,fun x c e=>⟨c,e⟩,fun x e=>by simp at e⟩
 |(n,k)::r,acc,h1,h2=>by
  by_cases hk:k= .free
  ·subst hk
   obtain⟨c,hc⟩:=h1 (n, .free) List.mem_cons_self rfl
   obtain⟨cl,e,a1,a2,a3⟩:=gS r ((n,c)::acc) (fun y hy=>h1 y (List.mem_cons_of_mem _ hy)) (fun x c' q=>by
    rw[List.lookup_cons] at q
    split at q
    ·rename_i hx
     cases q
     rw[show x=n from by simpa using hx];exact hc
    ·exact h2 x c' q)
   refine⟨cl,?_,a1,fun x c' q=>?_,fun x q=>?_⟩
   ·rw[List.forIn_cons]
    have:cellOf env n=pure c:=by unfold cellOf;rw[hc]
    simp only[beq_self_eq_true,if_true,this,pure_bind]
    exact e
   ·by_cases hx:x=n
    ·subst hx
     exact a2 x c (by simp[List.lookup_cons])
    ·exact a2 x c' (by rw[List.lookup_cons,show (x==n)=false from by simpa using hx];exact q)
   ·rw[List.lookup_cons] at q
    split at q
    ·rename_i hx
     exact a2 x c (by rw[List.lookup_cons,hx])
    ·exact a3 x q
  ·obtain⟨cl,e,a1,a2,a3⟩:=gS r acc (fun y hy=>h1 y (List.mem_cons_of_mem _ hy)) h2
   refine⟨cl,?_,a1,a2,fun x q=>?_⟩
   ·rw[List.forIn_cons]
    have:((k==NameKind.free)=true)=False:=by simpa using hk
    simp only[this,if_false,pure_bind]
    exact e
   ·rw[List.lookup_cons] at q
    split at q
    ·cases q;exact absurd rfl hk
    ·exact a3 x q
theorem kz{scope:Scope}{env:Env}(h:∀y∈scope.names,y.2= .free→∃c,env.cells.lookup y.1=some c):
 ∃cl,closureFor scope env=pure cl∧(∀x c,cl.lookup x=some c→env.cells.lookup x=some c)∧(∀x,scope.names.lookup x=some .free→∃c,cl.lookup x=some c):=by
 obtain⟨cl,e,a1,_,a3⟩:=gS (env:=env) scope.names [] h (fun x c q=>by simp at q)
 refine⟨cl,?_,a1,a3⟩
 unfold closureFor
 show (forIn scope.names [] _>>=fun r=>pure r)=_
 rw[bind_pure]
 exact e
def noex{α:Type}:M α→M α
 |some (.ok a)=>some (.ok a)
 |_=>none
def cH(f:D→M (Option D)):List D→M (List D)
 |[]=>M.ret []
 |d::ds=>f d>>=fun o=>cH f ds>>=fun r=>M.ret (match o with | some y=>y::r | none=>r)
def Fw(n:Nat):D→M (List D):=fun d=>match n,d with
 |0,d=>M.ret [d]
 |n, .tup ds=>if ds.length=n then M.ret ds else M.stuck
 |_,_=>M.stuck
def ei(n:Nat)(δt:DT)(δe:DE)(ρ:aY):D→M (Option D):=fun d=>
 Fw n d>>=fun ts=>δt (ts.map (fun t=>some (Sl.fz t))++ρ)>>=fun b=>if b then δe (ts.map (fun t=>some (Sl.fz t))++ρ)>>=fun y=>M.ret (some y) else M.ret none
def aT(n:Nat)(δi:DA)(δt:DT)(δe:DE):DE:=fun ρ=>δi ρ>>=fun ds=>noex (cH (ei n δt δe ρ) ds)>>=dw
def ba:DT:=fun _=>M.ret true
theorem cO(f:D→M (Option D))(d:D)(ds:List D):cH f (d::ds)=(f d>>=fun o=>cH f ds>>=fun r=>M.ret (match o with | some y=>y::r | none=>r)):=rfl
theorem qH{f:D→M (Option D)}{ds:List D}{i:Nat}{d:D}{ys R:List D}(hd:ds[i]? =some d)
 (h:cH f ds=(cH f (ds.drop i)>>=fun r=>M.ret (ys++r)))(hR:cH f ds=M.ret R):
 ∃o,f d=M.ret o∧cH f ds=(cH f (ds.drop (i+1))>>=fun r=>M.ret ((match o with | some y=>ys++[y] | none=>ys)++r)):=by
 have e:ds.drop i=d::ds.drop (i+1):=by
  obtain⟨hi,e⟩:=List.getElem?_eq_some_iff.mp hd
  rw[List.drop_eq_getElem_cons hi,e]
 rw[e,cO] at h
 have h':=h.symm.trans hR
 obtain⟨r,h1,h2⟩:=e7 h'
 obtain⟨o,h3,h4⟩:=e7 h1
 refine⟨o,h3,?_⟩
 obtain⟨r',h5,h6⟩:=e7 h4
 rw[h5,hR]
 rw[←h2,←gB h6]
 show M.ret _=M.ret _
 cases o with
 |none=>rfl
 |some y=>simp
theorem p8{P:Program}{w:World}{H:Hp}{h1 h2:Heap}{a:Addr}(x:HOk P w H h1)(s:Heap.SameBut a h1 h2)(n:H a=none):HOk P w H h2:=fun b o e=>by
 refine(x b o e).stay (fun c v hc q=>(s.2 c ?_).trans q) (fun _ q=>q) fun _ _ q=>q
 rintro rfl
 rcases hc with rfl | hc
 ·rw[n] at e;cases e
 ·rw[n] at hc;cases hc
theorem tE{prog:Program}{w:World}{A:Around}{R:Result→Shared→Prop}{s:Shared}{elt target iter:Expr}{ifs:List Expr}{scope:Scope}{pos:Pos}{it acc:Value}{env:Env}(I:Nat→Shared→Prop)
 (turn:∀n s,I n s→wpAny (model prog w) A (pyNext it) (fun r s₁=>match r with
  |none=>R (.ok .next) s₁
  |some v=>wpAny (model prog w) A (letOwnedTupleGo target it v) (fun _ Fu=>wpAny (model prog w) A (assign target env v) (fun _ s₂=>
    wpAny (model prog w) A (forIn ifs true fun c r=>if r=true then do let ok←isTrue c env (eval c env);pure (ForInStep.yield ok) else pure (ForInStep.yield r)) (fun ok s₃=>
     if ok=true then wpAny (model prog w) A (eval elt env) (fun x s₄=>
      wpAny (model prog w) A (call (.builtin "list.append") [acc,x]) (fun _ s₅=>∃m,m<n∧I m s₅) (notedBy (model prog w) A env fun e s'=>R (.error e) s') s₄) (notedBy (model prog w) A env fun e s'=>R (.error e) s') s₃
     else∃m,m<n∧I m s₃) (notedBy (model prog w) A env fun e s'=>R (.error e) s') s₂) (notedBy (model prog w) A env fun e s'=>R (.error e) s') Fu) (notedBy (model prog w) A env fun e s'=>R (.error e) s') s₁) (notedBy (model prog w) A env fun e s'=>R (.error e) s') s)
 (n:Nat) (h:I n s):
 codeAny (model prog w) A (.compLoop (.ListComp elt [⟨target,iter,ifs,0⟩] scope pos) 0 it acc env) R s:=by
 refine codeAny_loop rfl I (fun n s hI=>?_) n h
 show wpAny _ A ((compTurn (.ListComp elt [⟨target,iter,ifs,0⟩] scope pos) 0 it acc env).onRaise (fun x=>do noteFrame x env;theTreesLotGoes x)) _ _ s
 refine wpAny_noted ?_
 rw[compTurn_list]
 refine wpAny_bind (wpAny_standAt (wpAny_bind (wpAny_mono (turn n s hI) (fun r s₁ h₁=>?_) fun _ _ h'=>h')))
 cases r with
 |none=>exact wpAny_pure h₁
 |some v=>
  refine wpAny_bind (wpAny_mono h₁ (fun _ Fu h₁=>?_) fun _ _ h'=>h')
  refine wpAny_bind (wpAny_mono h₁ (fun _ s₂ h₂=>wpAny_bind (wpAny_mono h₂ (fun ok s₃ h₃=>?_) fun _ _ h'=>h')) fun _ _ h'=>h')
  cases ok with
  |false=>exact wpAny_pure ⟨rfl,h₃⟩
  |true=>
   exact wpAny_bind (wpAny_bind (wpAny_mono h₃ (fun x s₄ h₄=>wpAny_bind (wpAny_mono h₄ (fun _ s₅ h₅=>wpAny_pure (wpAny_pure ⟨rfl,h₅⟩)) fun _ _ h'=>h')) fun _ _ h'=>h'))
def uJ(X:Cx)(tg:Expr)(n:Nat)(σ:St):Prop:=∀(pins:List (Addr×Obj)) (s:Shared) (σ':St) (F H:Hp) (d:D) (ts:List D) (v:V) (u:Value),Inv X pins σ' H s→Same F H→σ'.drop (max n 1)=σ→RelV v u→Den X.K F d v→Fw n d=M.ret ts→
 wpAny (model X.prog X.w) X.A (assign tg X.env u) (fun _ s'=>∃vs,Inv X pins (vs.map some++σ) H s'∧DenL X.K F ts vs) X.xe s
def iT(X:Cx)(ifs:List Expr)(δt:DT):Prop:=∀(pins:List (Addr×Obj)) (s:Shared) (σ:St) (H:Hp) (Q:Bool→Hp→Prop),Inv X pins σ H s→Ey X.K (fun _ _=>False) δt σ H Q→
 wpAny (model X.prog X.w) X.A (forIn ifs true fun c r=>if r=true then do let ok←isTrue c X.env (eval c X.env);pure (ForInStep.yield ok) else pure (ForInStep.yield r)) (TP X pins σ Q) X.xe s
theorem bK{X:Cx}:iT X [] ba:=fun pins s σ H Q I ⟨F,ρ,S,w⟩=>wpAny_tests_nil ⟨H,I,w H F (Ext.refl S.fh)⟩
theorem wU{X:Cx}{c:Expr}{δ:DT}(h:oT X (fun _ _=>False) c δ):iT X [c] δ:=fun pins s σ H Q I w=>wpAny_tests_one (h pins s σ H Q I w)
theorem StE.cons{K:W.Frag}{F H:Hp}{σ:St}{ρ:aY}{ts:List D}{vs:List V}(s:StE K F H σ ρ)(h:DenL K F ts vs):StE K F H (vs.map some++σ) (ts.map (fun t=>some (Sl.fz t))++ρ):=by
 refine⟨s.fh,fun i sl e=>?_⟩
 have hl:=h.len
 by_cases hi:i<ts.length
 ·rw[List.getElem?_append_left (by simpa using hi),List.getElem?_map] at e
  cases q:ts[i]? with
  |none=>rw[q] at e;cases e
  |some t=>
   rw[q] at e
   cases e
   obtain⟨v,e1,e2⟩:=h.get q
   exact⟨v,by rw[List.getElem?_append_left (by simp;omega),List.getElem?_map,e1];rfl,e2⟩
 ·rw[List.getElem?_append_right (by simpa using hi)] at e
  obtain⟨v,e1,e2⟩:=s.den _ _ e
  refine⟨v,?_,e2⟩
  rw[List.getElem?_append_right (by simp;omega)]
  simpa[hl] using e1
theorem WPB.take{Xw:Nat→Hp→Prop}{F H:Hp}{b:Bool}:WPB Xw F H (M.ret b) fun b' H'=>b'=b∧∃F',Ext F H F' H':=fun H' F' e=>⟨rfl,F',e⟩
theorem WP.take{K:W.Frag}{Xw:Nat→Hp→Prop}{F H:Hp}{d:D}:WP K Xw F H (M.ret d) fun v H'=>∃F',Ext F H F' H'∧Den K F' d v:=fun v H' F' e q=>⟨F',e,q⟩
def je(env:Env)(p:Str×NameKind):Str×NameKind:=if (p.2== .free&&env.scope.kind== .function&&env.kindOf p.1==some .cell) then(p.1, .cell) else(p.1,p.2)
theorem eD(scope:Scope)(env:Env):(relabel scope env).names=scope.names.map (je env):=rfl
theorem wu(env:Env)(p:Str×NameKind):(je env p).1=p.1:=by unfold je;split<;>rfl
theorem fg(env:Env)(x:Str):∀ns:List (Str×NameKind),(ns.map (je env)).lookup x=(ns.lookup x).map fun k=>(je env (x,k)).2
 |[]=>rfl
 |(m,k)::r=>by
  rw[List.map_cons,List.lookup_cons,List.lookup_cons]
  have e:je env (m,k)=(m,(je env (m,k)).2):=Prod.ext (wu env (m,k)) rfl
  rw[e]
  dsimp only
  by_cases hx:(x==m)=true
  ·have hm:x=m:=by simpa using hx
   subst hm
   rw[hx]
   rfl
  ·have hx:(x==m)=false:=by simpa using hx
   rw[hx]
   exact fg env x r
theorem oh{scope:Scope}{env:Env}{x:Str}(h:scope.names.lookup x=none):(relabel scope env).names.lookup x=none:=by
 rw[eD,fg,h];rfl
theorem og{scope:Scope}{env:Env}{x:Str}(hc:∀y∈scope.names,y.2≠ .cell)(h:(relabel scope env).names.lookup x=some .cell∨(relabel scope env).names.lookup x=some .free):scope.names.lookup x=some .free:=by
 rw[eD,fg] at h
 cases q:scope.names.lookup x with
 |none=>rw[q] at h;rcases h with h | h<;>cases h
 |some k=>
  rw[q] at h
  have hk:k≠ .cell:=hc _ (PySem.mem_of_lookup q)
  have h:(je env (x,k)).2= .cell∨(je env (x,k)).2= .free:=by simpa using h
  by_cases hf:k= .free
  ·rw[hf]
  ·have:(je env (x,k)).2=k:=by
    unfold je
    rw[if_neg]
    simp[hf]
   rw[this] at h
   rcases h with h | h
   ·exact absurd h hk
   ·exact absurd h hf
theorem jf{scope:Scope}{env:Env}{x:Str}(h:scope.names.lookup x=some .free):¬(relabel scope env).names.lookup x=some .local:=by
 rw[eD,fg,h]
 intro z
 have z:(je env (x, .free)).2= .local:=by simpa using z
 unfold je at z
 split at z<;>cases z
structure BlockEnd (X:Cx) (pins:List (Addr×Obj)) (C:Addr) (H':Hp) (s1:Shared):Prop where
 ns:∃m,s1.heap.Ns C m
 free:H' C=none
 nl:C≠X.env.locals
 nw:X.s₀.heap.objs.size≤C
 nc:∀x c,X.env.cells.lookup x=some c→c≠C
 np:∀p∈X.pn++pins,p.1≠C
theorem oX{X:Cx}{Xw:Nat→Hp→Prop}{elt iter tg:Expr}{ifs:List Expr}{scope:Scope}{pos:Pos}{tn:List Str}{n:Nat}{δi:DA}{δt:DT}{δe:DE}{cl:List (Str×Addr)}{pins:List (Addr×Obj)}{s:Shared}{σ:St}{H F:Hp}{ρ:aY}{Q:VK}{RR:Value→Addr→Result→Shared→Prop}
 (sc:CompSc X scope tn)(hn:tn.length=max n 1)(hc:X.calm=true)(hi:yC X Xw tg iter δi)
 (hg:∀pins cl C fp s₂ H σ,uJ (gF X scope tn pins cl C fp s₂ H) tg n σ)
 (ht:∀pins cl C fp s₂ H,iT (gF X scope tn pins cl C fp s₂ H) ifs δt)
 (he:∀pins cl C fp s₂ H,PD (gF X scope tn pins cl C fp s₂ H) (fun _ _=>False) elt δe)
 (I:Inv X pins σ H s)(S:StE X.K F H σ ρ)(w:WP X.K Xw F H (aT n δi δt δe ρ) Q)
 (uU:∀x c,cl.lookup x=some c→X.env.cells.lookup x=some c)(cl2:∀x,scope.names.lookup x=some .free→∃c,cl.lookup x=some c)
 (F7:∀(s1:Shared) (C D:Addr) (H':Hp),Inv X pins σ H' s1→Q (.ref D) H'→BlockEnd X pins C H' s1→RR (.ref D) C (.ok .next) s1):
 wpAny (model X.prog X.w) X.A (eval iter X.env) (fun x s₁=>wpAny (model X.prog X.w) X.A (pyIter x) (fun it s₂=>wpAny (model X.prog X.w) X.A (newList []) (fun acc s₃=>
  wpAny (model X.prog X.w) X.A (newFunctionEnv scope X.env.globals cl [] X.env.qual none .none (some X.env)) (fun Bb s₄=>
   codeAny (model X.prog X.w) X.A (.compStart (.ListComp elt [⟨tg,iter,ifs,0⟩] scope pos) 0 it acc {Bb with scope:=relabel scope X.env}) (RR acc Bb.locals) s₄) X.xe s₃) X.xe s₂) X.xe s₁) X.xe s:=by
 refine bV (hi pins s σ H (fun J H2=>∃F2 ds,Ext F H F2 H2∧ItD X.K F2 J ds∧WP X.K Xw F2 H2 (noex (cH (ei n δt δe ρ) ds)>>=dw) Q) I ⟨F,ρ,S,?_⟩) fun xv s₁ h₁=>bV h₁ fun it s₂ h₂=>?_
 ·unfold aT at w
  rcases(δi ρ).cs with hq | ⟨m,hq⟩ | ⟨ds,hq⟩
  ·rw[hq] at w;exact w.elim
  ·rw[hq] at w⊢;exact w
  ·rw[hq] at w⊢;exact fun J H' F' e q=>⟨F',ds,e,q,WP.ext e w⟩
 obtain⟨ia,fp,Fx,J,H2,rfl,I2,T,Ce,f2,F2,ds,e2,Fi,w2⟩:=h₂
 obtain⟨R,hR,E5,w2⟩:∃R,cH (ei n δt δe ρ) ds=M.ret R∧R.length≤lim∧WP X.K Xw F2 H2 (M.ret (.lst R)) Q:=by
  rcases(cH (ei n δt δe ρ) ds).cs with hq | ⟨m,hq⟩ | ⟨R,hq⟩
  ·rw[hq] at w2;exact w2.elim
  ·rw[hq] at w2;exact w2.elim
  ·rw[hq] at w2
   obtain⟨h1,h2⟩:=qW (X:=X) (f:=D.lst) (show WP X.K Xw F2 H2 (dw R) Q from w2)
   exact⟨R,hq,h1,h2⟩
 refine wpAny_newObj_type (wpAny_newFunctionEnv sc.nocell (by intro y hy;simp at hy) (fun h₁ zE xC=>?_) sc.kind)
 dsimp only at zE xC⊢
 generalize Dp:s₂.heap.push {cls:= .type "list",dict:=none,data:= .seq ([]:List Value).toArray}=HL at zE xC⊢
 have hC:HL.objs.size=s₂.heap.objs.size+1:=by rw[←Dp,Heap.size_push]
 have tK:s₂.heap.objs.size<HL.objs.size:=by rw[hC];exact Nat.lt_succ_self _
 have old:∀b o,s₂.heap.get? b=some o→h₁.get? b=some o:=fun b o e=>xC.extBut b o (Nat.ne_of_lt (Nat.lt_trans (Heap.lt_size e) tK)) (Heap.get?_push_of_some _ (Dp▸Heap.get?_push_of_some _ e))
 have Ds:h₁.get? s₂.heap.objs.size=some {cls:= .type "list",data:= .seq ([]:List Value).toArray}:=xC.extBut _ _ (Nat.ne_of_lt tK) (Heap.get?_push_of_some _ (Dp▸Heap.get?_push_size _ rfl))
 have nD:H2 s₂.heap.objs.size=none:=I2.hok.fresh (Nat.le_refl _)
 have nC:H2 HL.objs.size=none:=I2.hok.fresh (Nat.le_of_lt tK)
 have gC:s₂.heap.get? HL.objs.size=none:=Heap.get?_none_of_le (Nat.le_of_lt tK)
 have fl:∀b∈fp,b<s₂.heap.objs.size:=fun b hb=>by
  obtain⟨o,e,_⟩:=T.obj 0 _ Ce b hb
  exact Heap.lt_size e
 generalize pj:gF X scope tn pins cl HL.objs.size fp s₂ H2=X'
 have Fp:X'.Ok:=by
  subst pj
  refine⟨I2.ok.mod,sc.kind,I2.ok.glob,I2.ok.blt,Nat.le_of_lt tK,fun x y c h1 h2=>I2.ok.inj x y c (uU _ _ h1) (uU _ _ h2),fun x hx=>?_,fun _ _ h=>(by cases h),I2.ok.hd,I2.ok.frames, .inl rfl,
   fun b hb=>⟨Nat.ne_of_lt (Nat.lt_trans (fl b hb) tK),fun x c h=>(f2 b hb).2.2.2.2.1 x c (uU _ _ h)⟩,I2.bs,Nat.le_trans I2.ok.bsz I2.sz,fun b o e hb=>?_,fun b hb z=>?_,I2.stack,I2.stkFree⟩
  ·have hx:(relabel scope X.env).names.lookup x=some .cell∨(relabel scope X.env).names.lookup x=some .free:=hx
   exact cl2 x (og sc.nocell hx)
  ·rcases(f2 b hb).2.2.2.1 with z | z
   ·exact I2.ok.noex b o e z
   ·exact absurd (Nat.lt_of_lt_of_le (Heap.lt_size (I2.ok.bs b o e).1) z) (Nat.lt_irrefl _)
  ·rcases List.mem_cons.mp (I2.stkSub b z) with q | q
   ·exact(f2 b hb).2.1 q
   ·exact(f2 b hb).2.2.1 q
 have Eb:∀b o,H2 b=some o→b≠s₂.heap.objs.size:=fun b o e=>bC e nD
 have zp:∀{H':Hp},(∀b∈fp,H' b=none)→∀b∈fp,oR X' [] H' b:=fun Gx b hb=>by
  subst pj
  refine⟨Gx b hb,Nat.ne_of_lt (Nat.lt_trans (fl b hb) tK),fun z=>Fp.exfs b hb z, .inl hb,fun x c h=>(f2 b hb).2.2.2.2.1 x c (uU _ _ h),fun p hp=>?_⟩
  rw[List.append_nil] at hp
  exact(f2 b hb).2.2.2.2.2 p hp
 have I0:Inv X' [] (List.replicate (max n 1) none++σ) (upd H2 s₂.heap.objs.size (.lst [])) {s₂ with heap:=h₁,toks:=s₂.toks+([]:List (Str×Value)).length}:=by
  subst pj
  have DU:HOk X.prog X.w (upd H2 s₂.heap.objs.size (.lst [])) h₁:=I2.hok.laid old (Nat.le_refl _) ⟨Nat.zero_le _,[],_, .nil,Ds⟩
  refine⟨Fp,rfl,I2.bare,Un.laid old (Nat.le_refl _) nD,⟨_,zE,fun i x v h1 h2 h3=>?_⟩,fun x c h=>?_,?_,fun x c h=>?_,fun p hp=>?_,DU,?_⟩
  ·by_cases hi:i<max n 1
   ·rw[List.getElem?_append_left (by simpa using hi),List.getElem?_replicate,if_pos hi] at h2
    cases h2
   ·have DG:tn.length≤i:=by omega
    have h1:(tn++bY tn X.N)[i]? =some x:=h1
    rw[List.getElem?_append_right DG] at h1
    rw[List.getElem?_append_right (by simpa using hi),List.length_replicate,←hn] at h2
    have hN:∃y,X.N[i - tn.length]? =some y∧(x,y)∈(bY tn X.N).zip X.N:=by
     have j2:=(List.getElem?_eq_some_iff.mp h1).1
     have xA:i - tn.length<X.N.length:=by simpa[bY] using j2
     refine⟨X.N[i - tn.length],List.getElem?_eq_getElem xA,?_⟩
     refine List.mem_iff_getElem?.mpr ⟨i - tn.length,?_⟩
     rw[List.getElem?_zip_eq_some]
     exact⟨h1,List.getElem?_eq_getElem xA⟩
    obtain⟨y,hy,hm⟩:=hN
    have hV:(relabel scope X.env).names.lookup x=some .local∨(relabel scope X.env).names.lookup x=some .cell∨(relabel scope X.env).names.lookup x=some .free:=h3
    rcases sc.vis _ hm with zD | ⟨D1,uH⟩
    ·have zD:scope.names.lookup x=none:=zD
     have:(relabel scope X.env).names.lookup x=none:=oh zD
     rw[this] at hV
     rcases hV with z | z | z<;>cases z
    ·have D1:x=y:=D1
     subst D1
     have uH:scope.names.lookup x=some .free:=uH
     have hk:=sc.frees (x, .free) (PySem.mem_of_lookup uH) rfl
     obtain⟨m,CI,DL⟩:=I2.loc
     obtain⟨u,ru,lk⟩:=DL _ x v hy h2 (by rcases hk with z | z;exact .inr (.inl z);exact .inr (.inr z))
     refine⟨u,ru, .inr ⟨?_,?_⟩⟩
     ·rcases hV with z | z | z
      ·exact absurd z (jf uH)
      ·exact .inl z
      ·exact .inr z
     ·rcases lk with⟨z,_⟩ | ⟨_,c,Gb,zx⟩
      ·rcases hk with q | q
       ·rw[show X.env.kindOf x=some .local from z] at q;cases q
       ·rw[show X.env.kindOf x=some .local from z] at q;cases q
      ·obtain⟨c',yN⟩:=cl2 x uH
       have:=uU _ _ yN
       rw[Gb] at this
       cases this
       obtain⟨o,ho,hd⟩:=zx
       exact⟨c,yN,o,old _ _ ho,hd⟩
  ·obtain⟨v,o,ho,hd⟩:=I2.cell x c (uU _ _ h)
   exact⟨v,o,old _ _ ho,hd⟩
  ·show upd H2 s₂.heap.objs.size (.lst []) HL.objs.size=none
   rw[ax (Nat.ne_of_gt tK)]
   exact nC
  ·have Bu:=uU _ _ h
   obtain⟨v,q⟩:=I2.cell x c Bu
   rw[ax (Nat.ne_of_lt q.lt)]
   exact I2.freeC x c Bu
  ·rw[List.append_nil] at hp
   obtain⟨e,nn,ne,nf,d⟩:=I2.pin p hp
   have j2:=Heap.lt_size e
   refine⟨old _ _ e,by rw[ax (Nat.ne_of_lt j2)];exact nn,Nat.ne_of_lt (Nat.lt_trans j2 tK),fun z=>?_,d⟩
   rcases List.mem_cons.mp (I2.stkSub p.1 z) with q | q
   ·exact ne q
   ·exact nf q
  ·show (List.replicate (max n 1) none++σ).length=(tn++bY tn X.N).length
   rw[List.length_append,List.length_append,List.length_replicate,hn,show (bY tn X.N).length=X.N.length from by simp[bY],I2.len]
 have loop:∀s₃:Shared,s₃={s₂ with heap:=h₁,toks:=s₂.toks+([]:List (Str×Value)).length}→
  codeAny (model X.prog X.w) X.A (.compLoop (.ListComp elt [⟨tg,iter,ifs,0⟩] scope pos) 0 (.ref ia) (.ref s₂.heap.objs.size) (compEnvC scope cl HL.objs.size X.env))
   (RR (.ref s₂.heap.objs.size) HL.objs.size) s₃:=by
  intro s₃ GI
  have u3:X'.env=compEnvC scope cl HL.objs.size X.env:=by subst pj;rfl
  have hA:X'.A=X.A:=by subst pj;rfl
  have hP:X'.prog=X.prog:=by subst pj;rfl
  have hw:X'.w=X.w:=by subst pj;rfl
  have hK:X'.K=X.K:=by subst pj;rfl
  have GQ:X'.xe=fun _ _=>False:=by subst pj;rfl
  have yO:X'.calm=true:=by subst pj;exact hc
  have Gg:X'.fs=eB X.stack:=by subst pj;rfl
  have hex:X'.ex=fp:=by subst pj;rfl
  have FZ:X'.H₀=H2:=by subst pj;rfl
  have Fe:X'.s₀=s₂:=by subst pj;rfl
  have pass:∀{α:Type}{t:Sem α}{P:α→Shared→Prop}{E':Value→Shared→Prop}{s:Shared},wpAny (model X'.prog X'.w) X'.A t P X'.xe s→wpAny (model X.prog X.w) X.A t P E' s:=fun {α t P E' s} h=>by
   rw[hP,hw,hA,GQ] at h
   exact wpAny_mono h (fun _ _ q=>q) fun _ _ q=>q.elim
  refine tE (fun m s'=>∃(i:Nat) (F' H':Hp) (vs:List V) (ys:List D) (σt:St),m=ds.length - i∧i≤ds.length∧σt.length=max n 1∧Inv X' [] (σt++σ) H' s'∧Fx i s'.heap∧(∀b∈fp,H' b=none)∧Ext F2 H2 F' H'∧
   H' s₂.heap.objs.size=some (.lst vs)∧F' s₂.heap.objs.size=none∧DenL X.K F' ys vs∧cH (ei n δt δe ρ) ds=(cH (ei n δt δe ρ) (ds.drop i)>>=fun r=>M.ret (ys++r))) ?_ ds.length ?_
  ·rintro m s' ⟨i,F',H',vs,ys,σt,rfl,DH,GR,I',qd,ES,qK,hD,fD,CL,heq⟩
   by_cases j2:i<ds.length
   ·
    obtain⟨d,hd⟩:∃d,ds[i]? =some d:=⟨_,List.getElem?_eq_getElem j2⟩
    obtain⟨DD,zH⟩:=(Fi F' H' i qK.ff qK.fh).1 d hd
    obtain⟨o,ho,Bz⟩:=qH hd heq hR
    have D2:ys.length≤lim:=by
     rw[heq] at hR
     obtain⟨r,_,hr⟩:=e7 hR
     rw[←gB hr,List.length_append] at E5
     omega
    obtain⟨ts,GL,ho⟩:=e7 ho
    refine pass ?_
    rw[hP,hw]
    refine bV (T.item X' hP hw hK yO i [] s' (σt++σ) H' X'.xe I' (zp ES) qd DD) ?_
    rintro r s1 ⟨u,rfl,h1⟩
    refine pass ?_
    rw[hP,hw]
    refine bV h1 ?_
    rintro _ s2 ⟨x,H3,I3,rx,y3,A1,CC⟩
    obtain⟨F3,w6,q3⟩:=zH x H3 y3
    have EW:H3 s₂.heap.objs.size=some (.lst vs):=w6.hh _ _ hD
    have FR:F3 s₂.heap.objs.size=none:=by rw[w6.old hD (fun _ z=>nomatch z)];exact fD
    have I3':=I3.pinned (zp CC) (T.obj _ _ A1)
    have sx:∀{σ7:St}{H7:Hp}{s7:Shared},Inv X' ([]++lr fp s2.heap) σ7 H7 s7→Fx (i+1) s7.heap∧∀b∈fp,H7 b=none:=fun {σ7 H7 s7} I7=>
     ⟨T.keep _ _ _ A1 fun b hb o e=>(I7.pin (b,o) (List.mem_append_right _ (List.mem_append_right _ (fi hb e)))).1,fun b hb=>by
      obtain⟨o,e,_⟩:=T.obj _ _ A1 b hb
      exact(I7.pin (b,o) (List.mem_append_right _ (List.mem_append_right _ (fi hb e)))).2.1⟩
    have Gi:uJ X' tg n σ:=by subst pj;exact hg _ _ _ _ _ _ _
    have GJ:iT X' ifs δt:=by subst pj;exact ht _ _ _ _ _ _
    have Ge:PD X' (fun _ _=>False) elt δe:=by subst pj;exact he _ _ _ _ _ _
    refine pass ?_
    rw[←u3]
    refine bV (Gi _ s2 (σt++σ) F3 H3 d ts x u I3' w6.fh (by rw[←GR];simp) rx (by rw[hK];exact q3) GL) ?_
    rintro _ s4 ⟨vt,I4,dt⟩
    rw[hK] at dt
    have S4:StE X.K F3 H3 (vt.map some++σ) (ts.map (fun t=>some (Sl.fz t))++ρ):=StE.cons ((S.ext e2).ext (qK.trans w6)) dt
    obtain⟨b,hb,ho⟩:=e7 ho
    refine pass ?_
    try rw[←u3]
    refine bV (GJ _ s4 _ H3 (fun b' H5=>b'=b∧∃F5,Ext F3 H3 F5 H5) I4 ⟨F3,_,by rw[hK];exact S4,by rw[hb];exact WPB.take⟩) ?_
    rintro b' s5 ⟨H5,I5,rfl,F5,zj⟩
    have Dm:H5 s₂.heap.objs.size=some (.lst vs):=zj.hh _ _ EW
    have EO:F5 s₂.heap.objs.size=none:=by rw[zj.old EW (fun _ z=>nomatch z)];exact FR
    cases b' with
    |false=>
     rw[if_neg Bool.false_ne_true] at ho⊢
     obtain rfl:=gB ho
     refine⟨ds.length - (i+1),by omega,i+1,F5,H5,vs,ys,vt.map some,rfl,j2,?_,I5.unpinned,(sx I5).1,(sx I5).2,qK.trans (w6.trans zj),Dm,EO,DenL.mono (w6.trans zj).ff CL,Bz⟩
     have h1:=I5.len
     have h2:=I3.len
     rw[List.length_append] at h1 h2
     omega
    |true=>
     rw[if_pos rfl] at ho⊢
     obtain⟨yv,hy,ho⟩:=e7 ho
     obtain rfl:=gB ho
     refine pass ?_
     try rw[←u3]
     refine bV (Ge _ s5 _ H5 (fun v H6=>∃F6,Ext F5 H5 F6 H6∧Den X.K F6 yv v) I5 ⟨F5,_,by rw[hK];exact S4.ext zj,by rw[hy,hK];exact WP.take⟩) ?_
     rintro xv s6 ⟨v,H6,I6,rv,F6,CB,qv⟩
     have FX:H6 s₂.heap.objs.size=some (.lst vs):=CB.hh _ _ Dm
     have ER:F6 s₂.heap.objs.size=none:=by rw[CB.old Dm (fun _ z=>nomatch z)];exact EO
     have GO:vs.length<sizeLine:=by
      have:=CL.len
      have:=cJ
      omega
     refine pass ?_
     refine bV (mH _ s6 _ H6 (.ref s₂.heap.objs.size) [v] (.ref s₂.heap.objs.size) [xv] (fun _ H7=>H7=upd H6 s₂.heap.objs.size (.lst (vs++[v]))) I6 rfl (.cons rv .nil) ⟨_,vs,v,rfl,rfl,FX,GO,rfl⟩) ?_
     rintro _ s7 ⟨_,H7,I7,_,rfl⟩
     have FQ:Ext F2 H2 F6 (upd H6 s₂.heap.objs.size (.lst (vs++[v]))):=by
      have e:=qK.trans (w6.trans (zj.trans CB))
      refine⟨fun b u q=>?_,e.ff,fun b u q=>?_,e.new⟩
      ·rw[ax (Eb b u q)];exact e.hh b u q
      ·rw[ax (fun z=>by rw[z,ER] at q;cases q)];exact e.fh b u q
     refine⟨ds.length - (i+1),by omega,i+1,F6,_,vs++[v],ys++[yv],vt.map some,rfl,j2,?_,I7.unpinned,(sx I7).1,(sx I7).2,FQ,aA,ER,
      DenL.append (DenL.mono (w6.trans (zj.trans CB)).ff CL) (.cons qv .nil),Bz⟩
     have h1:=I5.len
     have h2:=I3.len
     rw[List.length_append] at h1 h2
     omega
   ·
    have hi:i=ds.length:=by omega
    subst hi
    rw[List.drop_length] at heq
    have F8:R=ys:=by
     rw[heq] at hR
     have hR:M.ret (ys++[])=M.ret R:=hR
     rw[←gB hR,List.append_nil]
    subst F8
    refine pass ?_
    rw[hP,hw]
    refine bV (T.done X' hP hw hK yO ds.length [] s' (σt++σ) H' X'.xe I' (zp ES) qd ((Fi F' H' ds.length qK.ff qK.fh).2 (Nat.le_refl _))) ?_
    rintro r s1 ⟨rfl,I1⟩
    obtain⟨m,hm,_⟩:=I1.loc
    rw[u3] at hm
    have FW:H' HL.objs.size=none:=by
     have:=I1.free
     rw[u3] at this
     exact this
    have u:=I1.base
    rw[Gg,hex,FZ,Fe] at u
    have tM:s1.os=s₂.os:=by have:=I1.os;rw[Fe] at this;exact this
    have BB:=I1.hok
    rw[hP,hw] at BB
    refine F7 s1 HL.objs.size s₂.heap.objs.size H' (I2.call' (s':=s1) (ch:=fp) tM u BB I1.bare (fun b hb=>⟨(f2 b hb).2.2.2.1,(f2 b hb).2.1,(f2 b hb).2.2.2.2.1,(f2 b hb).2.2.2.2.2⟩)) ?_
     ⟨⟨m,hm⟩,FW,Nat.ne_of_gt (Nat.lt_trans I2.lt tK),Nat.le_trans I2.sz (Nat.le_of_lt tK),fun x c q z=>?_,fun p hp z=>?_⟩
    rotate_left
    ·obtain⟨v,q'⟩:=I2.cell x c q
     exact absurd (Nat.lt_trans q'.lt tK) (by rw[z];exact Nat.lt_irrefl _)
    ·exact absurd (Nat.lt_trans (Heap.lt_size (I2.pin p hp).1) tK) (by rw[z];exact Nat.lt_irrefl _)
    refine WP.fin w2 (F':=upd F' s₂.heap.objs.size (.lst vs)) ⟨qK.hh,fun b u q=>?_,fun b u q=>?_,fun a ha=>?_⟩ ⟨_,vs,rfl,aA,DenL.mono (fun b u q=>?_) CL,E5⟩
    ·rw[ax (fun z=>by have:=qK.ff b u q;rw[z,fD] at this;cases this)];exact qK.ff b u q
    ·by_cases z:b=s₂.heap.objs.size
     ·rw[z,aA] at q;rw[z,hD];exact q
     ·rw[ax z] at q;exact qK.fh b u q
    ·rcases qK.new a ha with q | q
     ·exact .inl (by rw[ax (fun z=>ha (by rw[z];exact nD))];exact q)
     ·exact .inr q
    ·rw[ax (fun z=>by rw[z,fD] at q;cases q)];exact q
  ·rw[GI]
   refine⟨0,F2,_,[],[],List.replicate (max n 1) none,by simp,Nat.zero_le _,by simp,I0,T.keep _ _ _ Ce (fun b hb o e=>old b o e),fun b hb=>?_,⟨fun b u q=>?_,Same.refl _,fun b u q=>?_,fun _ _=> .inl rfl⟩,aA,Same.free e2.fh nD,rfl,?_⟩
   ·rw[ax (Nat.ne_of_lt (fl b hb))];exact(f2 b hb).1
   ·rw[ax (Eb b u q)];exact q
   ·rw[ax (Eb b u (e2.fh b u q))];exact e2.fh b u q
   ·rw[List.drop_zero]
    rcases(cH (ei n δt δe ρ) ds).cs with hq | ⟨m,hq⟩ | ⟨R,hq⟩<;>rw[hq]<;>rfl
 exact codeAny_compStart_list (loop _ rfl) (T.self X.A 0 _ _ _ (T.keep _ _ _ Ce (fun b hb o e=>old b o e)) (loop _ rfl))
theorem Inv.block{X:Cx}{pins:List (Addr×Obj)}{σ:St}{H':Hp}{s1:Shared}{C:Addr}{h':Heap}(I:Inv X pins σ H' s1)(b:BlockEnd X pins C H' s1)(so:Heap.SameBut C s1.heap h'):Inv X pins σ H' {s1 with heap:=h'}:=
 I.turned (t':=s1.toks) (fun a o ha e=>(so.2 a ha).trans e) b.free b.nl (.inr b.nw) b.nc b.np
section
variable{X:Cx}{Xw:Nat→Hp→Prop}{elt iter tg:Expr}{ifs:List Expr}{scope:Scope}{pos:Pos}{tn:List Str}{n:Nat}{δi:DA}{δt:DT}{δe:DE}
theorem cg(sc:CompSc X scope tn)(hn:tn.length=max n 1)(hc:X.calm=true)(hi:yC X Xw tg iter δi)
 (hg:∀pins cl C fp s₂ H σ,uJ (gF X scope tn pins cl C fp s₂ H) tg n σ)
 (ht:∀pins cl C fp s₂ H,iT (gF X scope tn pins cl C fp s₂ H) ifs δt)
 (he:∀pins cl C fp s₂ H,PD (gF X scope tn pins cl C fp s₂ H) (fun _ _=>False) elt δe)
 (hs:∀x,foldedSetIterable iter X.env x=pure x:=by intro _;rfl):
 PD X Xw (.ListComp elt [⟨tg,iter,ifs,0⟩] scope pos) (aT n δi δt δe):=by
 intro pins s σ H Q I ⟨F,ρ,S,w⟩
 obtain⟨cl,vc,uU,cl2⟩:=kz (scope:=scope) (env:=X.env) fun y hy hf=>I.ok.has y.1 (sc.frees y hy hf)
 rw[eval_ListComp]
 refine wpAny_comprehension_free (use:=none) rfl hs vc sc.kind sc.names (oX (RR:=fun acc C=>compPost (model X.prog X.w) X.A X.xe none (EP X pins σ Q) acc C) sc hn hc hi hg ht he I S w uU cl2 fun s1 C D H' I1 q b=>?_)
 obtain⟨m,hm⟩:=b.ns
 exact⟨m,hm,fun h' so=>⟨.ref D,H',Inv.block I1 b so,rfl,q⟩⟩
end
inductive Out where
 |nx (ρ:aY) | rt (d:D)
abbrev DS:=aY→M Out
structure StOk (K:W.Frag) (F₀ H₀ F H:Hp) (σ:St) (ρ:aY):Prop where
 ext:Ext F₀ H₀ F H
 st:StE K F H σ ρ
 len:ρ.length=σ.length
 own:∀(i:Nat) (c:C) (a:Addr),ρ[i]? =some (some (.ow c))→σ[i]? =some (some (.ref a))→H₀ a=none
 sep:∀(i j:Nat) (c c':C) (a:Addr),ρ[i]? =some (some (.ow c))→ρ[j]? =some (some (.ow c'))→σ[i]? =some (some (.ref a))→σ[j]? =some (some (.ref a))→i=j
def WPS(K:W.Frag)(Xw:Nat→Hp→Prop)(F₀ H₀:Hp)(m:M Out)(Dn:Ends):Prop:=
 match m with
 |none=>False
 |some (.ok (.nx ρ))=>∀σ F H,StOk K F₀ H₀ F H σ ρ→Dn.nx σ H
 |some (.ok (.rt d))=>∀v F H,Ext F₀ H₀ F H→Den K F d v→Dn.rt v H
 |some (.ex n)=>∀F H,Ext F₀ H₀ F H→Xw n H
def tS(K:W.Frag)(Xw:Nat→Hp→Prop)(F₀ H₀:Hp)(τ:DS):TS:=fun Dn σ H=>∃F ρ,StOk K F₀ H₀ F H σ ρ∧WPS K Xw F₀ H₀ (τ ρ) Dn
def fx(X:Cx)(Xw:Nat→Hp→Prop)(st:Stmt)(τ:DS):Prop:=∀F₀ H₀,PS X st (tS X.K Xw F₀ H₀ τ)
def PSDs(X:Cx)(Xw:Nat→Hp→Prop)(st:List Stmt)(τ:DS):Prop:=∀F₀ H₀,PSs X st (tS X.K Xw F₀ H₀ τ)
theorem PS.weak{X:Cx}{st:Stmt}{t t':TS}(h:PS X st t)(k:∀D σ H,t' D σ H→t D σ H):PS X st t':=fun pins s σ H D I w=>h pins s σ H D I (k D σ H w)
theorem PSs.weak{X:Cx}{st:List Stmt}{t t':TS}(h:PSs X st t)(k:∀D σ H,t' D σ H→t D σ H):PSs X st t':=fun pins s σ H D I w=>h pins s σ H D I (k D σ H w)
section
variable{K:W.Frag}{Xw:Nat→Hp→Prop}{F₀ H₀ F H F' H':Hp}{σ:St}{ρ:aY}
theorem StOk.ext'(s:StOk K F₀ H₀ F H σ ρ)(e:Ext F H F' H'):StOk K F₀ H₀ F' H' σ ρ:=⟨s.ext.trans e,s.st.ext e,s.len,s.own,s.sep⟩
theorem StOk.set(s:StOk K F₀ H₀ F H σ ρ){i:Nat}{d:D}{v:V}(h:Den K F d v):StOk K F₀ H₀ F H (σ.set i (some v)) (ρ.set i (some (.fz d))):=by
 have hl:=s.len
 have get:∀(j:Nat) (sl:Sl),(ρ.set i (some (.fz d)))[j]? =some (some sl)→(j=i∧i<ρ.length∧sl= .fz d)∨(j≠i∧ρ[j]? =some (some sl)):=fun j sl e=>by
  by_cases hj:j=i
  ·subst hj
   have hi:j<ρ.length:=by
    have:=(List.getElem?_eq_some_iff.mp e).1
    simpa using this
   rw[List.getElem?_set_self hi] at e
   cases e
   exact .inl ⟨rfl,hi,rfl⟩
  ·rw[List.getElem?_set_ne (Ne.symm hj)] at e
   exact .inr ⟨hj,e⟩
 refine⟨s.ext,⟨s.st.fh,fun j sl e=>?_⟩,by simp[hl],fun j c a e e'=>?_,fun j k c c' a e1 e2 e3 e4=>?_⟩
 ·rcases get j sl e with⟨rfl,hi,rfl⟩ | ⟨hj,e⟩
  ·exact⟨v,by rw[List.getElem?_set_self (by omega)],h⟩
  ·obtain⟨u,h1,h2⟩:=s.st.den j sl e
   exact⟨u,by rw[List.getElem?_set_ne (Ne.symm hj)];exact h1,h2⟩
 ·rcases get j _ e with⟨_,_,z⟩ | ⟨hj,e⟩
  ·cases z
  ·rw[List.getElem?_set_ne (Ne.symm hj)] at e'
   exact s.own j c a e e'
 ·rcases get j _ e1 with⟨_,_,z⟩ | ⟨hj,e1⟩
  ·cases z
  ·rcases get k _ e2 with⟨_,_,z⟩ | ⟨hk,e2⟩
   ·cases z
   ·rw[List.getElem?_set_ne (Ne.symm hj)] at e3
    rw[List.getElem?_set_ne (Ne.symm hk)] at e4
    exact s.sep j k c c' a e1 e2 e3 e4
theorem StOk.setNew(s:StOk K F₀ H₀ F H σ ρ){i:Nat}{a:Addr}{o:HO}{c₀:C}(n:H a=none)(h:DenC K F c₀ o):
 StOk K F₀ H₀ F (upd H a o) (σ.set i (some (.ref a))) (ρ.set i (some (.ow c₀))):=by
 have hle:=s.len
 have e0:=Ext.free (o:=o) s.st.fh n
 have nF:F a=none:=Same.free s.st.fh n
 have get:∀(j:Nat) (sl:Sl),(ρ.set i (some (.ow c₀)))[j]? =some (some sl)→(j=i∧i<ρ.length∧sl= .ow c₀)∨(j≠i∧ρ[j]? =some (some sl)):=fun j sl e=>by
  by_cases hj:j=i
  ·subst hj
   have hi:j<ρ.length:=by
    have:=(List.getElem?_eq_some_iff.mp e).1
    simpa using this
   rw[List.getElem?_set_self hi] at e
   cases e
   exact .inl ⟨rfl,hi,rfl⟩
  ·rw[List.getElem?_set_ne (Ne.symm hj)] at e
   exact .inr ⟨hj,e⟩
 have old:∀(j:Nat) (c:C) (b:Addr),ρ[j]? =some (some (.ow c))→σ[j]? =some (some (.ref b))→b≠a:=fun j c b e e' z=>by
  obtain⟨u,h1,b',o,h2,h3,_⟩:=s.st.den j _ e
  rw[h1] at e'
  cases e'
  cases h2
  rw[z,n] at h3
  cases h3
 refine⟨s.ext.trans e0,⟨e0.fh,fun j sl e=>?_⟩,by simp[hle],fun j c b e e'=>?_,fun j k c c' b e1 e2 e3 e4=>?_⟩
 ·rcases get j sl e with⟨rfl,hi,rfl⟩ | ⟨hj,e⟩
  ·exact⟨.ref a,by rw[List.getElem?_set_self (by omega)],a,_,rfl,aA,nF,h⟩
  ·obtain⟨u,h1,h2⟩:=s.st.den j sl e
   exact⟨u,by rw[List.getElem?_set_ne (Ne.symm hj)];exact h1,h2.ext e0⟩
 ·rcases get j _ e with⟨rfl,hi,_⟩ | ⟨hj,e⟩
  ·rw[List.getElem?_set_self (by omega)] at e'
   cases e'
   exact Same.free s.ext.hh n
  ·rw[List.getElem?_set_ne (Ne.symm hj)] at e'
   exact s.own j c b e e'
 ·rcases get j _ e1 with⟨rfl,hi,_⟩ | ⟨hj,e1⟩
  ·rw[List.getElem?_set_self (by omega)] at e3
   cases e3
   rcases get k _ e2 with⟨rfl,_,_⟩ | ⟨hk,e2⟩
   ·rfl
   ·rw[List.getElem?_set_ne (Ne.symm hk)] at e4
    exact absurd rfl (old k c' a e2 e4)
  ·rcases get k _ e2 with⟨Gr,hi,_⟩ | ⟨hk,e2⟩
   ·rw[Gr,List.getElem?_set_self (by omega)] at e4
    cases e4
    rw[List.getElem?_set_ne (Ne.symm hj)] at e3
    exact absurd rfl (old j c a (by assumption) e3)
   ·rw[List.getElem?_set_ne (Ne.symm hj)] at e3
    rw[List.getElem?_set_ne (Ne.symm hk)] at e4
    exact s.sep j k c c' b e1 e2 e3 e4
theorem StOk.chg(s:StOk K F₀ H₀ F H σ ρ){i:Nat}{a:Addr}{c c₀:C}{o₀:HO}(hi:ρ[i]? =some (some (.ow c)))(ha:σ[i]? =some (some (.ref a)))(h:DenC K F c₀ o₀):
 StOk K F₀ H₀ F (upd H a o₀) σ (ρ.set i (some (.ow c₀))):=by
 have hle:=s.len
 have h0:=s.own i c a hi ha
 obtain⟨u,q1,a',o,q2,q3,q4,q5⟩:=s.st.den i _ hi
 rw[ha] at q1
 cases q1
 cases q2
 have AU:i<ρ.length:=(List.getElem?_eq_some_iff.mp hi).1
 have get:∀(j:Nat) (sl:Sl),(ρ.set i (some (.ow c₀)))[j]? =some (some sl)→(j=i∧sl= .ow c₀)∨(j≠i∧ρ[j]? =some (some sl)):=fun j sl e=>by
  by_cases hj:j=i
  ·subst hj
   rw[List.getElem?_set_self AU] at e
   cases e
   exact .inl ⟨rfl,rfl⟩
  ·rw[List.getElem?_set_ne (Ne.symm hj)] at e
   exact .inr ⟨hj,e⟩
 have fh:Same F (upd H a o₀):=fun b o e=>by
  rw[ax (fun z=>by rw[z,q4] at e;cases e)];exact s.st.fh b o e
 refine⟨⟨fun b o e=>?_,s.ext.ff,fh,s.ext.new⟩,⟨fh,fun j sl e=>?_⟩,by simp[hle],fun j c' b e e'=>?_,fun j k c1 c2 b e1 e2 e3 e4=>?_⟩
 ·rw[ax (fun z=>by rw[z,h0] at e;cases e)];exact s.ext.hh b o e
 ·rcases get j sl e with⟨rfl,rfl⟩ | ⟨hj,e⟩
  ·exact⟨.ref a,ha,a,_,rfl,aA,q4,h⟩
  ·obtain⟨u,h1,h2⟩:=s.st.den j sl e
   refine⟨u,h1,?_⟩
   cases sl with
   |fz d=>exact h2
   |ow c'=>
    obtain⟨b,o',r1,r2,r3,r4⟩:=h2
    refine⟨b,o',r1,?_,r3,r4⟩
    rw[ax (fun z=>hj (s.sep j i c' c a e hi (by rw[h1,r1,z]) ha))];exact r2
 ·rcases get j _ e with⟨rfl,_⟩ | ⟨hj,e⟩
  ·rw[ha] at e';cases e';exact h0
  ·exact s.own j c' b e e'
 ·have k1:∃c,ρ[j]? =some (some (.ow c)):=by
   rcases get j _ e1 with⟨rfl,_⟩ | ⟨_,e⟩
   ·exact⟨c,hi⟩
   ·exact⟨_,e⟩
  have k2:∃c,ρ[k]? =some (some (.ow c)):=by
   rcases get k _ e2 with⟨rfl,_⟩ | ⟨_,e⟩
   ·exact⟨c,hi⟩
   ·exact⟨_,e⟩
  obtain⟨_,k1⟩:=k1
  obtain⟨_,k2⟩:=k2
  exact s.sep j k _ _ b k1 k2 e3 e4
def frz(i:Nat)(ρ:aY):aY:=match ρ[i]? with
 |some (some (.ow c))=>ρ.set i (some (.fz c.d))
 |_=>ρ
theorem StOk.frz(s:StOk K F₀ H₀ F H σ ρ)(i:Nat)(obj:Addr→Obj):(∃a o,H a=some o∧DenC K F (ρ[i]?.elim (.lst []) fun x=>x.elim (.lst []) fun y=>match y with | .ow c=>c | _=> .lst []) o∧σ[i]? =some (some (.ref a))∧StOk K F₀ H₀ (upd F a (fL (obj a) o)) (upd H a (fL (obj a) o)) σ (frz i ρ))∨frz i ρ=ρ:=by
 unfold L3.frz
 split
 ·rename_i c₀ hi
  have hle:=s.len
  obtain⟨u,ha,a,o,rfl,q3,q4,yQ⟩:=s.st.den i _ hi
  refine .inl ⟨a,o,q3,by rw[hi];exact yQ,ha,?_⟩
  have h0:=s.own i _ a hi ha
  have AU:i<ρ.length:=(List.getElem?_eq_some_iff.mp hi).1
  have ff:Same F (upd F a (fL (obj a) o)):=fun b o e=>by rw[ax (fun z=>by rw[z,q4] at e;cases e)];exact e
  have fh:Same (upd F a (fL (obj a) o)) (upd H a (fL (obj a) o)):=fun b o e=>by
   by_cases z:b=a
   ·rw[z,aA] at e⊢;exact e
   ·rw[ax z] at e⊢;exact s.st.fh b o e
  have get:∀(j:Nat) (sl:Sl),(ρ.set i (some (.fz c₀.d)))[j]? =some (some sl)→(j=i∧sl= .fz c₀.d)∨(j≠i∧ρ[j]? =some (some sl)):=fun j sl e=>by
   by_cases hj:j=i
   ·subst hj
    rw[List.getElem?_set_self AU] at e
    cases e
    exact .inl ⟨rfl,rfl⟩
   ·rw[List.getElem?_set_ne (Ne.symm hj)] at e
    exact .inr ⟨hj,e⟩
  refine⟨⟨fun b u q=>?_,s.ext.ff.trans ff,fh,fun b hb=>?_⟩,⟨fh,fun j sl e=>?_⟩,by simp[hle],fun j c' b e e'=>?_,fun j k c1 c2 b e1 e2 e3 e4=>?_⟩
  ·rw[ax (fun z=>by rw[z,h0] at q;cases q)];exact s.ext.hh b u q
  ·rcases s.ext.new b hb with q | q
   ·exact .inl (by rw[ax (fun z=>hb (by rw[z];exact h0))];exact q)
   ·exact .inr q
  ·rcases get j sl e with⟨rfl,rfl⟩ | ⟨hj,e⟩
   ·exact⟨.ref a,ha,DenC.den yQ ff aA⟩
   ·obtain⟨u,h1,h2⟩:=s.st.den j sl e
    refine⟨u,h1,?_⟩
    cases sl with
    |fz d=>exact Den.mono ff h2
    |ow c'=>
     obtain⟨b,o',r1,r2,r3,r4⟩:=h2
     have qt:b≠a:=fun z=>hj (s.sep j i c' _ a e hi (by rw[h1,r1,z]) ha)
     exact⟨b,o',r1,by rw[ax qt];exact r2,by rw[ax qt];exact r3,DenC.mono ff r4⟩
  ·rcases get j _ e with⟨_,z⟩ | ⟨hj,e⟩
   ·cases z
   ·exact s.own j c' b e e'
  ·rcases get j _ e1 with⟨_,z⟩ | ⟨_,e1⟩
   ·cases z
   ·rcases get k _ e2 with⟨_,z⟩ | ⟨_,e2⟩
    ·cases z
    ·exact s.sep j k _ _ b e1 e2 e3 e4
 ·exact .inr rfl
end
def join(F H:Hp):Hp:=fun a=>match F a with
 |some o=>some o
 |none=>H a
theorem StOk.rebase{K:W.Frag}{F₀ H₀ F H:Hp}{σ:St}{ρ:aY}(s:StOk K F₀ H₀ F H σ ρ):StOk K F (join F H₀) F H σ ρ∧∀F' H',Ext F (join F H₀) F' H'→Ext F₀ H₀ F' H':=by
 have hj:Same (join F H₀) H:=fun b o e=>by
  unfold join at e
  cases q:F b with
  |some u=>rw[q] at e;cases e;exact s.st.fh b _ q
  |none=>rw[q] at e;exact s.ext.hh b o e
 have h0:Same H₀ (join F H₀):=fun b o e=>by
  unfold join
  cases q:F b with
  |some u=>
   have h1:=s.st.fh b u q
   rw[s.ext.hh b o e] at h1
   exact h1.symm
  |none=>exact e
 refine⟨⟨⟨hj,Same.refl _,s.st.fh,fun _ _=> .inl rfl⟩,s.st,s.len,fun i c a e e'=>?_,s.sep⟩,fun F' H' x=>⟨h0.trans x.hh,s.ext.ff.trans x.ff,x.fh,fun a ha=>?_⟩⟩
 ·have h1:=s.own i c a e e'
  obtain⟨v,q1,a',o,q2,q3,q4,_⟩:=s.st.den i _ e
  rw[e'] at q1
  cases q1
  cases q2
  unfold join
  rw[q4]
  exact h1
 ·have:join F H₀ a≠none:=by
   cases q:H₀ a with
   |none=>exact absurd q ha
   |some o=>rw[h0 a o q];exact fun z=>nomatch z
  rcases s.ext.new a ha with p | p
  ·rcases x.new a this with q | ⟨ts,q⟩
   ·exact .inl (q.trans p)
   ·cases z:H₀ a with
    |none=>exact absurd z ha
    |some o=>
     rw[h0 a o z] at q
     exact .inr ⟨ts,q⟩
  ·exact .inr p
theorem StOk.unbase{K:W.Frag}{F₀ H₀ F U F' H':Hp}{σ:St}{ρ:aY}(k:∀F' H',Ext F U F' H'→Ext F₀ H₀ F' H')(s:StOk K F U F' H' σ ρ)(h:Same H₀ U):StOk K F₀ H₀ F' H' σ ρ:=
 ⟨k _ _ s.ext,s.st,s.len,fun i c a e e'=>Same.free h (s.own i c a e e'),s.sep⟩
theorem tT{K:W.Frag}{F₀ H₀ F H:Hp}{σ:St}{ρ:aY}(s:StOk K F₀ H₀ F H σ ρ):Same H₀ (join F H₀):=fun b o e=>by
 unfold join
 cases q:F b with
 |some u=>
  have h1:=s.st.fh b u q
  rw[s.ext.hh b o e] at h1
  exact h1.symm
 |none=>exact e
theorem Inv.refrz{X:Cx}{pins:List (Addr×Obj)}{σ:St}{H:Hp}{s:Shared}{a:Addr}{o o':HO}(I:Inv X pins σ H s)(e:H a=some o)
 (ho:o'=o∨∃u,o'= .frz ((s.heap.get? a).getD {cls:= .none,data:= .fields #[]}) u∧((∃k,o= .dT k∧u= .dT k)∨∃k,o= .dK k∧u= .dK k)):Inv X pins σ (upd H a o') s:=by
 rcases ho with rfl | ⟨u,rfl,hu⟩
 ·have:upd H a o'=H:=by
   funext b
   by_cases z:b=a
   ·rw[z,aA,e]
   ·rw[ax z]
  rw[this];exact I
 have Gz:o=u:=by rcases hu with⟨k,h1,h2⟩ | ⟨k,h1,h2⟩<;>rw[h1,h2]
 subst Gz
 have nt:∀ts,o≠ .tup ts:=fun ts z=>by rcases hu with⟨k,h1,_⟩ | ⟨k,h1,_⟩<;>rw[h1] at z<;>cases z
 have nf:∀ob v,o≠ .frz ob v:=fun ob v z=>by rcases hu with⟨k,h1,_⟩ | ⟨k,h1,_⟩<;>rw[h1] at z<;>cases z
 have nb:∀p,o≠ .tbl p:=fun p z=>by rcases hu with⟨k,h1,_⟩ | ⟨k,h1,_⟩<;>rw[h1] at z<;>cases z
 have no:∀p,o≠ .own p:=fun p z=>by rcases hu with⟨k,h1,_⟩ | ⟨k,h1,_⟩<;>rw[h1] at z<;>cases z
 have ne:∀b,H b=none→b≠a:=fun b hb z=>by rw[z,e] at hb;cases hb
 have hk:=I.hok a o e
 have j2:=hk.lt
 obtain⟨ob,BG⟩:∃ob,s.heap.get? a=some ob:=by
  rcases hu with⟨k,h1,_⟩ | ⟨k,h1,_⟩
  ·subst h1;obtain⟨_,_,_,_,ob,_,_,q,_⟩:=hk;exact⟨ob,q⟩
  ·subst h1;obtain⟨_,_,_,_,ob,_,_,q,_⟩:=hk;exact⟨ob,q⟩
 rw[BG]
 refine⟨I.ok,I.os,I.bare,⟨I.base.keep,I.base.slot,fun b q h1 h2 h3=>?_,I.base.there,fun b xs q=>?_,fun b q1 v q=>?_,fun b ps q=>?_⟩,I.loc,I.cell,?_,fun x c q=>?_,fun p hp=>?_,fun b v q=>?_,I.len⟩
 ·have:=I.base.free b q h1 h2 h3
  rw[ax (ne b this)];exact this
 ·have:=I.base.tups b xs q
  rw[ax (fun z=>by rw[z,e] at this;exact nt xs (Option.some.inj this))];exact this
 ·have:=I.base.frzs b q1 v q
  rw[ax (fun z=>by rw[z,e] at this;exact nf _ _ (Option.some.inj this))];exact this
 ·obtain⟨m,this⟩:=I.base.tbls b ps q
  exact⟨m,by rw[ax (fun z=>by rw[z,e] at this;exact nb _ (Option.some.inj this))];exact this⟩
 ·rw[ax (ne _ I.free)];exact I.free
 ·rw[ax (ne _ (I.freeC x c q))];exact I.freeC x c q
 ·obtain⟨h1,h2,h3⟩:=I.pin p hp
  exact⟨h1,by rw[ax (ne _ h2)];exact h2,h3⟩
 ·have st:∀{c:Addr}{v:HO},ObjOk X.prog X.w H s.heap c v→ObjOk X.prog X.w (upd H a (.frz ob o)) s.heap c v:=fun {c v} k=>k.stay (fun _ _ _ q=>q)
   (fun c' q=>by rw[ax (fun z=>by rw[z,e] at q;exact no _ (Option.some.inj q))];exact q) fun c' xs q=>by rw[ax (fun z=>by rw[z,e] at q;exact nt _ (Option.some.inj q))];exact q
  by_cases z:b=a
  ·subst z
   rw[show (some ob).getD _=ob from rfl,aA] at q
   cases q
   exact⟨BG,st hk⟩
  ·rw[ax z] at q
   exact st (I.hok b v q)
def aI(a b:DS):DS:=fun ρ=>a ρ>>=fun o=>match o with | .nx ρ'=>b ρ' | .rt d=>M.ret (.rt d)
def cn:DS:=fun ρ=>M.ret (.nx ρ)
def a_(δ:DE):DS:=fun ρ=>δ ρ>>=fun d=>M.ret (.rt d)
def fE(δ:DE):DS:=fun ρ=>δ ρ>>=fun _=>M.ret (.nx ρ)
def b9(i:Nat)(δ:DE):DS:=fun ρ=>δ ρ>>=fun d=>M.ret (.nx (ρ.set i (some (.fz d))))
def eZ(c:DT)(a b:DS):DS:=fun ρ=>c ρ>>=fun x=>if x then a ρ else b ρ
def A0(i:Nat)(a:DS):DS:=fun ρ=>a (frz i ρ)
def uu(i:Nat):DS:=fun ρ=>M.ret (.nx (ρ.set i (some (.ow (.lst [])))))
def ug(ρ:aY)(i:Nat):Option (List D):=match ρ[i]? with
 |some (some (.ow (.lst ds)))=>some ds
 |_=>none
theorem mO{ρ:aY}{i:Nat}{ds:List D}(h:ug ρ i=some ds):ρ[i]? =some (some (.ow (.lst ds))):=by
 unfold ug at h
 split at h
 ·rename_i Hi e
  cases h
  exact e
 ·cases h
def oj(i:Nat)(δ:DE):DS:=fun ρ=>match ug ρ i with
 |some ds=>δ ρ>>=fun d=>if ds.length<lim then M.ret (.nx (ρ.set i (some (.ow (.lst (ds++[d])))))) else M.stuck
 |none=>M.stuck
def wC(i:Nat)(δ:DE):DS:=fun ρ=>match ug ρ i with
 |some ds=>δ ρ>>=fun d=>lstM d>>=fun es=>if ds.length+es.length≤lim then M.ret (.nx (ρ.set i (some (.ow (.lst (ds++es)))))) else M.stuck
 |none=>M.stuck
def forL(put:D→aY→Option aY)(body:DS):List D→DS
 |[],ρ=>M.ret (.nx ρ)
 |d::ds,ρ=>(match put d ρ with | none=>M.stuck | some ρ1=>body ρ1>>=fun o=>match o with | .nx ρ2=>forL put body ds ρ2 | .rt v=>M.ret (.rt v))
def putN(i:Nat):D→aY→Option aY:=fun d ρ=>some (ρ.set i (some (.fz d)))
def eE(put:D→aY→Option aY)(δi:DA)(body:DS):DS:=fun ρ=>δi ρ>>=fun ds=>forL put body ds ρ
section
variable{X:Cx}{Xw:Nat→Hp→Prop}{F₀ H₀:Hp}{st:Stmt}{rest:List Stmt}{τ τ':DS}{e:Expr}{δ:DE}{pos:Pos}
theorem aR:PSDs X Xw [] cn:=fun F₀ H₀=>PSs.weak yo fun D σ H ⟨F,ρ,s,w⟩=>w σ F H s
theorem aw(h1:fx X Xw st τ)(h2:PSDs X Xw rest τ'):PSDs X Xw (st::rest) (aI τ τ'):=fun F₀ H₀=>PSs.weak (wd (h1 F₀ H₀) (h2 F₀ H₀)) fun D σ H ⟨F,ρ,s,w⟩=>by
 refine⟨F,ρ,s,?_⟩
 unfold aI at w
 match τ ρ,w with
 |none,w=>exact w
 |some (.ok (.nx ρ')),w=>exact fun σ' F' H' s'=>⟨F',ρ',s',w⟩
 |some (.ok (.rt d)),w=>exact w
 |some (.ex n),w=>exact w
theorem ar(h1:fx X Xw st τ):PSDs X Xw [st] τ:=fun F₀ H₀=>yp (h1 F₀ H₀)
theorem kh{i:Nat}(h:fx X Xw st τ):fx X Xw st (A0 i τ):=fun F₀ H₀ pins sh σ H D I ⟨F,ρ,s,w⟩=>by
 rcases s.frz i (fun a=>(sh.heap.get? a).getD {cls:= .none,data:= .fields #[]}) with⟨a,o,ha,hc,hσ,s'⟩ | e
 ·refine h F₀ H₀ pins sh σ _ D (L3.Inv.refrz I ha ?_) ⟨_,_,s',w⟩
  generalize (ρ[i]?.elim (C.lst []) fun x=>x.elim (.lst []) fun y=>match y with | .ow c=>c | _=> .lst [])=c at hc
  cases c with
  |lst ds=>obtain⟨vs,rfl,_⟩:=hc;exact .inl rfl
  |dct ks ds=>obtain⟨vs,rfl,_⟩:=hc;exact .inr ⟨_,rfl, .inl ⟨_,rfl,rfl⟩⟩
  |dci ks ds=>obtain⟨vs,rfl,_⟩:=hc;exact .inr ⟨_,rfl, .inr ⟨_,rfl,rfl⟩⟩
 ·exact h F₀ H₀ pins sh σ H D I ⟨F,ρ,s,by unfold A0 at w;rw[e] at w;exact w⟩
theorem az(h:PD X Xw e δ):fx X Xw (.Return (some e) pos) (a_ δ):=fun F₀ H₀=>PS.weak (Au h) fun D σ H ⟨F,ρ,s,w⟩=>by
 refine⟨F,ρ,s.st,?_⟩
 unfold a_ at w
 match δ ρ,w with
 |none,w=>exact w
 |some (.ok d),w=>exact fun v H' F' e' q=>w v F' H' (s.ext.trans e') q
 |some (.ex n),w=>exact fun F' H' e'=>w F' H' (s.ext.trans e')
theorem dO(h:PD X Xw e δ)(hs:swapsWith e none pos.line X.env=pure false:=by rfl):fx X Xw (.Expr e pos) (fE δ):=fun F₀ H₀=>PS.weak (n9 h hs) fun D σ H ⟨F,ρ,s,w⟩=>by
 refine⟨F,ρ,s.st,?_⟩
 unfold fE at w
 match δ ρ,w with
 |none,w=>exact w
 |some (.ok d),w=>exact fun v H' F' e' q=>w σ F' H' (s.ext' e')
 |some (.ex n),w=>exact fun F' H' e'=>w F' H' (s.ext.trans e')
theorem bb{i:Nat}{x:Str}{pos':Pos}(hN:X.N.Nodup)(hi:X.N[i]? =some x)(hx:Loc X.env.scope x)(he:PD X Xw e δ)(hf:X.fn x=true∨X.env.scope.names.lookup x=some .local:=by first | exact .inl rfl | exact .inr rfl)
 (hs:swapsWithSole [.Name x pos'] e pos.line X.env=pure false:=by rfl):
 fx X Xw (.Assign [.Name x pos'] e pos) (b9 i δ):=fun F₀ H₀=>PS.weak (rD he (bZ hN hi hx hf) hs) fun D σ H ⟨F,ρ,s,w⟩=>by
 refine⟨F,ρ,s.st,?_⟩
 unfold b9 at w
 match δ ρ,w with
 |none,w=>exact w
 |some (.ok d),w=>exact fun v H' F' e' q=>w _ F' H' ((s.ext' e').set q)
 |some (.ex n),w=>exact fun F' H' e'=>w F' H' (s.ext.trans e')
theorem pY{elt iter tg:Expr}{ifs:List Expr}{scope:Scope}{aM:Pos}{tn:List Str}{n:Nat}{δi:DA}{δt:DT}{δe:DE}{i:Nat}{x:Str}{pos':Pos}(hN:X.N.Nodup)(DG:X.N[i]? =some x)(hx:Loc X.env.scope x)
 (sc:CompSc X scope tn)(hn:tn.length=max n 1)(hc:X.calm=true)(hi:yC X Xw tg iter δi)
 (hg:∀pins cl C fp s₂ H σ,uJ (gF X scope tn pins cl C fp s₂ H) tg n σ)
 (ht:∀pins cl C fp s₂ H,iT (gF X scope tn pins cl C fp s₂ H) ifs δt)
 (he:∀pins cl C fp s₂ H,PD (gF X scope tn pins cl C fp s₂ H) (fun _ _=>False) elt δe)
 (hf:X.fn x=true∨X.env.scope.names.lookup x=some .local:=by first | exact .inl rfl | exact .inr rfl)
 (GH:swapsWith (.ListComp elt [⟨tg,iter,ifs,0⟩] scope aM) (some (.Name x pos')) pos.line X.env=pure true:=by rfl)
 (hs:∀x,foldedSetIterable iter X.env x=pure x:=by intro _;rfl):
 fx X Xw (.Assign [.Name x pos'] (.ListComp elt [⟨tg,iter,ifs,0⟩] scope aM) pos) (b9 i (aT n δi δt δe)):=fun F₀ H₀ pins s σ H D I ⟨F,ρ,S,w⟩=>by
 obtain⟨cl,vc,uU,cl2⟩:=kz (scope:=scope) (env:=X.env) fun y hy hf=>I.ok.has y.1 (sc.frees y hy hf)
 have w':WP X.K Xw F H (aT n δi δt δe ρ) (fun v H'=>D.nx (σ.set i (some v)) H'):=by
  have w:WPS X.K Xw F₀ H₀ (aT n δi δt δe ρ>>=fun d=>M.ret (.nx (ρ.set i (some (.fz d))))) D:=w
  match aT n δi δt δe ρ,w with
  |none,w=>exact w
  |some (.ok d),w=>exact fun v H' F' e' q=>w _ F' H' ((S.ext' e').set q)
  |some (.ex n),w=>exact fun F' H' e'=>w F' H' (S.ext.trans e')
 rw[exec_Assign_Name_used _ _ _ _ GH]
 refine wpAny_bind (wpAny_standAt (wpAny_bind ?_))
 show wpAny _ X.A (do let _←comprehension (.ListComp elt [⟨tg,iter,ifs,0⟩] scope aM) scope X.env _ (newList []) false (eval iter X.env) (some (assign (.Name x pos') X.env))) _ _ s
 refine wpAny_bind (wpAny_mono (wpAny_comprehension_free (use:=some (assign (.Name x pos') X.env)) (Q:=fun _ s'=>SP X pins D .next s') rfl hs vc sc.kind sc.names
  (oX (RR:=fun acc C=>compPost (model X.prog X.w) X.A X.xe (some (assign (.Name x pos') X.env)) (fun _ s'=>SP X pins D .next s') acc C) sc hn hc hi hg ht he I S.st w' uU cl2 fun s1 C D' H' I1 q b=>?_)) (fun _ s' hq=>wpAny_pure (wpAny_pure hq)) fun _ _ e=>e)
 show wpAny _ X.A (assign (.Name x pos') X.env (.ref D')) _ _ _
 refine wpAny_assign_Name (jl I1 hN DG hx (v:= .ref D') rfl (fun s2 I2 ⟨a,sb,ha⟩=>?_) hf)
 have FV:C≠a:=by
  rcases ha with z | z
  ·rw[z];exact b.nl
  ·exact Ne.symm (b.nc x a z)
 obtain⟨m,hm⟩:=b.ns
 have CI:s2.heap.Ns C m:=hm.sameBut sb FV
 refine⟨m,CI,fun h' so=>⟨_,H',Inv.block I2 ⟨⟨m,CI⟩,b.free,b.nl,b.nw,b.nc,b.np⟩ so,q⟩⟩
theorem bt{c:Expr}{a b:List Stmt}{tc:DT}(hc:oT X Xw c tc)(ha:PSDs X Xw a τ)(hb:PSDs X Xw b τ'):fx X Xw (.If c a b pos) (eZ tc τ τ'):=fun F₀ H₀=>PS.weak (B2 hc (ha F₀ H₀) (hb F₀ H₀)) fun D σ H ⟨F,ρ,s,w⟩=>by
 refine⟨F,ρ,s.st,?_⟩
 unfold eZ at w
 match tc ρ,w with
 |none,w=>exact w
 |some (.ok true),w=>exact fun H' F' e'=>⟨F',ρ,s.ext' e',w⟩
 |some (.ok false),w=>exact fun H' F' e'=>⟨F',ρ,s.ext' e',w⟩
 |some (.ex n),w=>exact fun F' H' e'=>w F' H' (s.ext.trans e')
theorem ki{i:Nat}{x:Str}{pos' Ar:Pos}(hN:X.N.Nodup)(hi:X.N[i]? =some x)(hx:Loc X.env.scope x)(hf:X.fn x=true∨X.env.scope.names.lookup x=some .local:=by first | exact .inl rfl | exact .inr rfl):
 fx X Xw (.Assign [.Name x pos'] (.List [] Ar) pos) (uu i):=fun F₀ H₀=>PS.weak (rD (v9 nW) (bZ hN hi hx hf) rfl) fun D σ H ⟨F,ρ,s,w⟩=>by
 refine⟨Nat.zero_le _,fun p hp=>?_⟩
 exact w _ F _ (s.setNew (c₀:= .lst []) hp ⟨[],rfl,rfl,Nat.zero_le _⟩)
def uI(K:W.Frag)(g:TG)(put:D→aY→Option aY):Prop:=∀(F₀ H₀ F H:Hp) (σ:St) (ρ ρ':aY) (d:D) (v:V) (Q:St→Hp→Prop),StOk K F₀ H₀ F H σ ρ→Den K F d v→put d ρ=some ρ'→
 (∀σ',StOk K F₀ H₀ F H σ' ρ'→Q σ' H)→g v σ H Q
theorem cM{K:W.Frag}{i:Nat}:uI K (vb i) (putN i):=fun F₀ H₀ F H σ ρ ρ' d v Q s q e k=>by
 cases e
 exact k _ (s.set q)
def G7(K:W.Frag)(Xw:Nat→Hp→Prop)(τ:DS):TS:=fun D σ H=>∃F₀ H₀,tS K Xw F₀ H₀ τ D σ H
theorem PSDs.ex{body:List Stmt}(h:PSDs X Xw body τ):PSs X body (G7 X.K Xw τ):=fun pins s σ H D I ⟨F₀,H₀,w⟩=>h F₀ H₀ pins s σ H D I w
theorem c4{tg iter:Expr}{body:List Stmt}{δi:DA}{g:TG}{put:D→aY→Option aY}(hp:PassesOwn (model X.prog X.w) X.A X.env X.xe)(hc:X.calm=true)(hi:yC X Xw tg iter δi)(hg:PG X tg g)(DW:uI X.K g put)(hb:PSDs X Xw body τ)
 (hs:∀x,foldedSetIterable iter X.env x=pure x:=by intro _;rfl):fx X Xw (.For tg iter body [] pos) (eE put δi τ):=fun F₀ H₀=>PS.weak (As hp hc hi hg hb.ex hs) fun D σ H ⟨F,ρ,s,w⟩=>by
 refine⟨F,ρ,s.st,?_⟩
 unfold eE at w
 match δi ρ,w with
 |none,w=>exact w
 |some (.ex n),w=>exact fun F' H' e'=>w F' H' (s.ext.trans e')
 |some (.ok ds),w=>
  have w:WPS X.K Xw F₀ H₀ (forL put τ ds ρ) D:=w
  intro J H1 F1 e1 Fj
  obtain⟨s1,back⟩:=(s.ext' e1).rebase
  have hU:=tT (s.ext' e1)
  generalize join F1 H₀=U at s1 back hU
  refine⟨fun i m σ H=>m=ds.length - i∧i≤ds.length∧∃F ρ,StOk X.K F1 U F H σ ρ∧WPS X.K Xw F₀ H₀ (forL put τ (ds.drop i) ρ) D,⟨ds.length,by simp,Nat.zero_le _,F1,ρ,s1,by simpa using w⟩,?_⟩
  rintro i m σ2 H2 ⟨rfl,DH,F2,ρ2,s2,w2⟩
  by_cases j2:i<ds.length
  ·obtain⟨d,hd⟩:∃d,ds[i]? =some d:=⟨_,List.getElem?_eq_getElem j2⟩
   obtain⟨DD,zH⟩:=(Fj F2 H2 i s2.ext.ff s2.st.fh).1 d hd
   have ed:ds.drop i=d::ds.drop (i+1):=by
    obtain⟨hi,e⟩:=List.getElem?_eq_some_iff.mp hd
    rw[List.drop_eq_getElem_cons hi,e]
   rw[ed] at w2
   unfold forL at w2
   refine .inr ⟨DD,fun σ' H'=>∃F' ρ',StOk X.K F1 U F' H' σ' ρ'∧WPS X.K Xw F₀ H₀ (forL put τ (ds.drop (i+1)) ρ') D,fun σ' H' ⟨F',ρ',h2,h3⟩=>⟨ds.length - (i+1),by omega,rfl,j2,F',ρ',h2,h3⟩,fun x H3 y3=>?_⟩
   obtain⟨F3,w6,q3⟩:=zH x H3 y3
   match GF:put d ρ2,w2 with
   |none,w2=>exact w2.elim
   |some ρ3,w2=>
    refine DW F1 U F3 H3 σ2 ρ2 ρ3 d x _ (s2.ext' w6) q3 GF fun σ3 s3=>⟨F1,U,F3,ρ3,s3,?_⟩
    have w2:WPS X.K Xw F₀ H₀ (τ ρ3>>=fun o=>match o with | .nx ρ2=>forL put τ (ds.drop (i+1)) ρ2 | .rt v=>M.ret (.rt v)) D:=w2
    match τ ρ3,w2 with
    |none,w2=>exact w2
    |some (.ok (.nx ρ')),w2=>exact fun σ' F' H' s'=>⟨F',ρ',s',w2⟩
    |some (.ok (.rt d)),w2=>exact fun v F' H' e q=>w2 v F' H' (back _ _ e) q
    |some (.ex n),w2=>exact fun F' H' e=>w2 F' H' (back _ _ e)
  ·have hi:i=ds.length:=by omega
   subst hi
   rw[List.drop_length] at w2
   exact .inl ⟨(Fj F2 H2 ds.length s2.ext.ff s2.st.fh).2 (Nat.le_refl _),w2 σ2 F2 H2 (s2.unbase back hU)⟩
end
def gI(f:Int→Int→D):D→D→M D
 | .int i, .int j=>M.ret (f i j)
 |_,_=>M.stuck
def Bq(c:Int→Int→Bool)(f:Int→Int→D):D→D→M D
 | .int i, .int j=>if c i j then M.ret (f i j) else M.stuck
 |_,_=>M.stuck
theorem pR{K:W.Frag}{gv:Int→Int→V}{gd:Int→Int→D}(h:∀F i j,Den K F (gd i j) (gv i j)):rV K (ur gv) (gI gd):=fun Xw F H x y dx dy Q s hx hy w=>by
 unfold gI at w
 split at w
 ·rename_i i j
  exact⟨i,j,hx,hy,WP.now w s (h F i j)⟩
 ·exact w.elim
theorem rp{K:W.Frag}{gv:Int→Int→V}{gd:Int→Int→D}{c:Int→Int→Bool}{C:Int→Int→Prop}(h:∀F i j,Den K F (gd i j) (gv i j))(hc:∀i j,c i j=true→C i j):rV K (rI C gv) (Bq c gd):=fun Xw F H x y dx dy Q s hx hy w=>by
 unfold Bq at w
 split at w
 ·rename_i i j
  split at w
  ·rename_i CF
   exact⟨i,j,hx,hy,hc i j CF,WP.now w s (h F i j)⟩
  ·exact w.elim
 ·exact w.elim
def cw:=gI fun i j=> .int (i+j)
def xx:=gI fun i j=> .int (i - j)
def fN:=Bq (fun i j=>decide ((-(2 ^ 64)<i∧i<2 ^ 64)∨(-(2 ^ 64)<j∧j<2 ^ 64))) fun i j=> .int (i*j)
def lS:=Bq (fun _ j=>decide (0<j∧j<1073741824)) fun i j=> .int (i / j)
def ie:=Bq (fun _ j=>decide (0<j)) fun i j=> .int (i % j)
def AR:=gI fun i j=> .bl (decide (i<j))
def Dk:=gI fun i j=> .bl (decide (i≤j))
section
variable{X:Cx}{Xw:Nat→Hp→Prop}{a b:Expr}{δa δb:DE}{pos:Pos}
theorem bN(ha:PD X Xw a δa)(hb:PD X Xw b δb):PD X Xw (.BinOp a .Add b pos) (d2 cw δa δb):=gM zZ (pR fun _ _ _=>rfl) ha hb
theorem vU(ha:PD X Xw a δa)(hb:PD X Xw b δb):PD X Xw (.BinOp a .Sub b pos) (d2 xx δa δb):=gM z6 (pR fun _ _ _=>rfl) ha hb
theorem g4(ha:PD X Xw a δa)(hb:PD X Xw b δb):PD X Xw (.BinOp a .Mult b pos) (d2 fN δa δb):=gM z3 (rp (fun _ _ _=>rfl) fun i j h=>by unfold CMul;exact of_decide_eq_true h) ha hb
theorem nZ(ha:PD X Xw a δa)(hb:PD X Xw b δb):PD X Xw (.BinOp a .FloorDiv b pos) (d2 lS δa δb):=gM xQ (rp (fun _ _ _=>rfl) fun i j h=>by unfold A3;exact of_decide_eq_true h) ha hb
theorem jc(ha:PD X Xw a δa)(hb:PD X Xw b δb):PD X Xw (.BinOp a .Mod b pos) (d2 ie δa δb):=gM z1 (rp (fun _ _ _=>rfl) fun i j h=>of_decide_eq_true h) ha hb
theorem wj(ha:PD X Xw a δa)(hb:PD X Xw b δb):oT X Xw (.Compare a [.Lt] [b] pos) (da (d2 AR δa δb)):=kj vM (pR fun _ _ _=>rfl) ha hb
def i4:D→D→M D
 | .lst ds, .int i=>match atI ds i with | some d=>M.ret d | none=>M.stuck
 |_,_=>M.stuck
def bp:D→D→M D
 | .tup ds, .int i=>match atI ds i with | some d=>M.ret d | none=>M.stuck
 |_,_=>M.stuck
def va:D→D→M D
 | .scr ns, .int i=>match atI ns i with | some n=>M.ret (.int n) | none=>M.stuck
 |_,_=>M.stuck
def eM:D→D→M D
 | .str x, .int i=>match atI x.cps.toList i with | some c=>M.ret (.str ⟨#[c]⟩) | none=>M.stuck
 |_,_=>M.stuck
theorem DenL.atI{K:W.Frag}{F:Hp}{ds:List D}{vs:List V}(h:DenL K F ds vs){i:Int}{d:D}(e:L2.atI ds i=some d):∃v,L2.atI vs i=some v∧Den K F d v:=by
 unfold L2.atI at e⊢
 rw[←h.len]
 cases q:zO ds.length i with
 |none=>rw[q] at e;cases e
 |some j=>
  rw[q] at e
  exact h.get e
theorem xT{K:W.Frag}:rV K (Ay K) i4:=fun Xw F H x y dx dy Q s hx hy w=>by
 unfold i4 at w
 split at w
 ·rename_i ds i
  obtain⟨a,vs,h1,h2,h3,h4⟩:=hx
  split at w
  ·rename_i d e
   obtain⟨v,e1,q⟩:=h3.atI e
   exact⟨a,vs,i,v,h1,hy,SqL.of (s _ _ h2),e1,WP.now w s q⟩
  ·exact w.elim
 ·exact w.elim
theorem xW{K:W.Frag}:rV K (Ca K) bp:=fun Xw F H x y dx dy Q s hx hy w=>by
 unfold bp at w
 split at w
 ·rename_i ds i
  obtain⟨a,vs,h1,h2,h3,h4⟩:=hx
  split at w
  ·rename_i d e
   obtain⟨v,e1,q⟩:=h3.atI e
   exact⟨a,vs,i,v,h1,hy,SqT.of (s _ _ h2),e1,WP.now w s q⟩
  ·exact w.elim
 ·exact w.elim
theorem xU{K:W.Frag}:rV K (Ay K) va:=fun Xw F H x y dx dy Q s hx hy w=>by
 unfold va at w
 split at w
 ·rename_i ns i
  obtain⟨a,h1,h2,h3⟩:=hx
  split at w
  ·rename_i n e
   refine⟨a,_,i, .int n,h1,hy,Same.seq s h2,?_,WP.now w s rfl⟩
   unfold L2.atI at e⊢
   rw[List.length_map]
   cases q:zO ns.length i with
   |none=>rw[q] at e;cases e
   |some j=>
    rw[q] at e
    have e:ns[j]? =some n:=e
    show (ns.map V.int)[j]? =some (.int n)
    rw[List.getElem?_map,e];rfl
  ·exact w.elim
 ·exact w.elim
theorem xV{K:W.Frag}:rV K B_ eM:=fun Xw F H x y dx dy Q s hx hy w=>by
 unfold eM at w
 split at w
 ·rename_i z i
  obtain⟨h1,h2⟩:=hx
  split at w
  ·rename_i c e
   exact⟨z,i,c,h1,hy,by have:=cJ;omega,e,WP.now w s ⟨rfl,by show 1≤lim;decide⟩⟩
  ·exact w.elim
 ·exact w.elim
theorem gZ(ha:PD X Xw a δa)(hb:PD X Xw b δb)(hs:gm b:=by intro _ _;rfl):PD X Xw (.Subscript a b pos) (d2 i4 δa δb):=sJ sv xT ha hb hs
theorem Ab(ha:PD X Xw a δa)(hb:PD X Xw b δb)(hs:gm b:=by intro _ _;rfl):PD X Xw (.Subscript a b pos) (d2 va δa δb):=sJ sv xU ha hb hs
theorem bo(ha:PD X Xw a δa)(hb:PD X Xw b δb)(hs:gm b:=by intro _ _;rfl):PD X Xw (.Subscript a b pos) (d2 bp δa δb):=sJ zQ xW ha hb hs
theorem ll(ha:PD X Xw a δa)(hb:PD X Xw b δb)(hs:gm b:=by intro _ _;rfl):PD X Xw (.Subscript a b pos) (d2 eM δa δb):=sJ zP xV ha hb hs
def mC:D→D→M D
 | .str x, .str y=>if x.length+y.length≤lim then M.ret (.str (x++y)) else M.stuck
 |_,_=>M.stuck
def kG:D→D→M D
 | .lst x, .lst y=>if x.length+y.length≤lim then M.ret (.lst (x++y)) else M.stuck
 |_,_=>M.stuck
def zr:D→D→M D
 | .lst x, .int k=>if (0≤k∧k≤64)∧x.length*k.toNat≤lim then M.ret (.lst (List.replicate k.toNat x).flatten) else M.stuck
 |_,_=>M.stuck
theorem eg(x y:Str):(x++y).length=x.length+y.length:=by
 show (x.cps++y.cps).size=_
 simp[Str.length]
theorem xY(ha:PD X Xw a δa)(hb:PD X Xw b δb):PD X Xw (.BinOp a .Add b pos) (d2 mC δa δb):=gM ro (fun Xw F H x y dx dy Q s hx hy w=>by
 unfold mC at w
 split at w
 ·rename_i i j
  split at w
  ·rename_i hl
   exact⟨i,j,hx.1,hy.1,by have:=cJ;omega,WP.now w s ⟨rfl,by rw[eg];exact hl⟩⟩
  ·exact w.elim
 ·exact w.elim) ha hb
theorem x9(ha:PD X Xw a δa)(hb:PD X Xw b δb):PD X Xw (.BinOp a .Add b pos) (d2 kG δa δb):=gM z0 (fun Xw F H x y dx dy Q s hx hy w=>by
 unfold kG at w
 split at w
 ·rename_i i j
  obtain⟨a,vs,h1,h2,h3,h4⟩:=hx
  obtain⟨a',wY,k1,k2,k3,k4⟩:=hy
  split at w
  ·rename_i hl
   have e1:=h3.len
   have e2:=k3.len
   have:=cJ
   refine⟨a,a',vs,wY,h1,k1,s _ _ h2,s _ _ k2,by omega,fun p hp=>?_⟩
   exact WP.fin w (Ext.lay s hp) ⟨p,_,rfl,aA,DenL.mono (Ext.lay s hp).ff (h3.append k3),by rw[List.length_append];exact hl⟩
  ·exact w.elim
 ·exact w.elim) ha hb
theorem DenL.rep{K:W.Frag}{F:Hp}{ds:List D}{vs:List V}(h:DenL K F ds vs):∀n:Nat,DenL K F (List.replicate n ds).flatten (List.replicate n vs).flatten
 |0=>rfl
 |n+1=>by
  rw[List.replicate_succ,List.replicate_succ,List.flatten_cons,List.flatten_cons]
  exact h.append (DenL.rep h n)
theorem Ae(ha:PD X Xw a δa)(hb:PD X Xw b δb):PD X Xw (.BinOp a .Mult b pos) (d2 zr δa δb):=gM z5 (fun Xw F H x y dx dy Q s hx hy w=>by
 unfold zr at w
 split at w
 ·rename_i i k
  obtain⟨a,vs,h1,h2,h3,h4⟩:=hx
  split at w
  ·rename_i hl
   obtain⟨⟨l1,l2⟩,l3⟩:=hl
   have e1:=h3.len
   have:=cJ
   refine⟨a,k,vs,h1,hy,s _ _ h2,by omega,by omega,by rw[←e1];omega,fun p hp=>?_⟩
   exact WP.fin w (Ext.lay s hp) ⟨p,_,rfl,aA,DenL.mono (Ext.lay s hp).ff (h3.rep _),by rw[len_rep,Nat.mul_comm];exact l3⟩
  ·exact w.elim
 ·exact w.elim) ha hb
end
end L3
namespace L3
open PySem PySem.Spec L2 SeqAt
open PyProof.Rows hiding St
def nz(f:D→D→Option Bool):List D→List D→Option Bool
 |[],[]=>some true
 |x::xs,y::ys=>match f x y,nz f xs ys with
  |some b,some r=>some (b&&r)
  |_,_=>none
 |[],_::_=>some false
 |_::_,[]=>some false
def qI:D→D→Option Bool
 | .non, .non=>some true
 | .bl a, .bl b=>some (a==b)
 | .bl a, .int j=>some ((if a then 1 else 0)==j)
 | .int i, .bl b=>some (i==(if b then 1 else 0))
 | .int i, .int j=>some (i==j)
 | .str x, .str y=>some (x==y)
 | .non, .bl _=>some false
 | .non, .int _=>some false
 | .non, .str _=>some false
 | .non, .lst _=>some false
 | .non, .tup _=>some false
 | .bl _, .non=>some false
 | .bl _, .str _=>some false
 | .bl _, .lst _=>some false
 | .bl _, .tup _=>some false
 | .int _, .non=>some false
 | .int _, .str _=>some false
 | .int _, .lst _=>some false
 | .int _, .tup _=>some false
 | .str _, .non=>some false
 | .str _, .bl _=>some false
 | .str _, .int _=>some false
 | .str _, .lst _=>some false
 | .str _, .tup _=>some false
 | .lst _, .non=>some false
 | .lst _, .bl _=>some false
 | .lst _, .int _=>some false
 | .lst _, .str _=>some false
 | .lst _, .tup _=>some false
 | .tup _, .non=>some false
 | .tup _, .bl _=>some false
 | .tup _, .int _=>some false
 | .tup _, .str _=>some false
 | .tup _, .lst _=>some false
 |_,_=>none
def jv:Nat→D→D→Option Bool
 |n+1, .tup xs, .tup ys=>nz (jv n) xs ys
 |n+1, .lst xs, .lst ys=>nz (jv n) xs ys
 |n+1, .scr xs, .lst ys=>nz (jv n) (xs.map D.int) ys
 |_,x,y=>qI x y
structure EqAll (A:Around) (s:Shared) (u v:Value) (b:Bool):Prop where
 rc:RcAt A s u v b
 ne:RcNeAt A s u v (!b)
 eq:EqAt A s u v b
section
variable{X:Cx}{pins:List (Addr×Obj)}{σ:St}{F H:Hp}{s:Shared}{A:Around}
theorem dD(I:Inv X pins σ H s)(hs:Same F H){ds:List D}{v:V}{u:Value}(h:Den X.K F (.tup ds) v)(r:RelV v u):∃a vs aG,u= .ref a∧v= .ref a∧F a=some (.tup vs)∧DenL X.K F ds vs∧Vals vs aG∧s.heap.IsTuple a aG.toArray:=by
 obtain⟨a,vs,rfl,h2,h3,h4⟩:=h
 obtain⟨aG,r1,p1,_⟩:=I.tuple (SqT.of (hs _ _ h2))
 exact⟨a,vs,aG,r,rfl,h2,h3,r1,p1⟩
theorem dg(I:Inv X pins σ H s)(hs:Same F H){ds:List D}{v:V}{u:Value}(h:Den X.K F (.lst ds) v)(r:RelV v u):∃a vs aG,u= .ref a∧v= .ref a∧F a=some (.lst vs)∧DenL X.K F ds vs∧Vals vs aG∧s.heap.IsList a aG.toArray:=by
 obtain⟨a,vs,rfl,h2,h3,h4⟩:=h
 obtain⟨aG,r1,p1,_⟩:=I.list (SqL.of (hs _ _ h2))
 exact⟨a,vs,aG,r,rfl,h2,h3,r1,p1.isList⟩
theorem AB(I:Inv X pins σ H s)(hs:Same F H){ns:List Int}{v:V}{u:Value}(h:Den X.K F (.scr ns) v)(r:RelV v u):∃a aG,u= .ref a∧v= .ref a∧SqL X.K F a (ns.map V.int)∧Vals (ns.map V.int) aG∧s.heap.IsList a aG.toArray:=by
 obtain⟨a,rfl,h2,h3⟩:=h
 obtain⟨aG,r1,p1,_⟩:=I.list (Same.seq hs h2)
 exact⟨a,aG,r,rfl,h2,r1,p1.isList⟩
theorem o8(I:Inv X pins σ H s)(hs:Same F H)(hu:A.units<cLine){x y:D}{v w:V}{u t:Value}{b:Bool}(hx:Den X.K F x v)(hy:Den X.K F y w)(rx:RelV v u)(ry:RelV w t)(e:qI x y=some b):EqAll A s u t b:=by
 cases x with
 |non=>
  cases y with
  |non=>
   cases e
   cases (show _=_ from hx)
   cases rx
   cases (show _=_ from hy)
   cases ry
   exact⟨RcAt.none_none,RcNeAt.none_none,EqAt.same _⟩
  |bl d=>
   cases e
   cases (show _=_ from hx)
   cases rx
   cases (show _=_ from hy)
   cases ry
   exact⟨RcAt.none_bool _,RcNeAt.none_bool _,EqAt.none_bool _⟩
  |int d=>
   cases e
   cases (show _=_ from hx)
   cases rx
   cases (show _=_ from hy)
   obtain⟨t2,rfl⟩:=ry
   exact⟨RcAt.none_int _ _,RcNeAt.none_int _ _,EqAt.none_int _ _⟩
  |str d=>
   cases e
   cases (show _=_ from hx)
   cases rx
   cases (show _=_ from hy.1)
   obtain⟨t2,rfl⟩:=ry
   exact⟨RcAt.none_str _ _,RcNeAt.none_str _ _,EqAt.none_str _ _⟩
  |raw d=>cases e
  |dct _ _=>cases e
  |dci _ _=>cases e
  |exc d=>cases e
  |scr d=>cases e
  |tup d=>
   cases e
   cases (show _=_ from hx)
   cases rx
   obtain⟨a2,_,_,rfl,_,_,_,_,p2⟩:=dD I hs hy ry
   exact⟨RcAt.none_tuple p2 hu,RcNeAt.none_tuple p2 hu,EqAt.none_tuple p2 hu⟩
  |lst d=>
   cases e
   cases (show _=_ from hx)
   cases rx
   obtain⟨a2,_,_,rfl,_,_,_,_,p2⟩:=dg I hs hy ry
   exact⟨RcAt.none_list p2 hu,RcNeAt.none_list p2 hu,EqAt.none_list p2 hu⟩
 |bl c=>
  cases y with
  |non=>
   cases e
   cases (show _=_ from hx)
   cases rx
   cases (show _=_ from hy)
   cases ry
   exact⟨RcAt.bool_none _,RcNeAt.bool_none _,EqAt.bool_none _⟩
  |bl d=>
   cases e
   cases (show _=_ from hx)
   cases rx
   cases (show _=_ from hy)
   cases ry
   exact⟨RcAt.bool_bool _ _,RcNeAt.bool_bool _ _,EqAt.bool_bool _ _⟩
  |int d=>
   cases e
   cases (show _=_ from hx)
   cases rx
   cases (show _=_ from hy)
   obtain⟨t2,rfl⟩:=ry
   exact⟨RcAt.bool_int _ _ _,RcNeAt.bool_int _ _ _,EqAt.bool_int _ _ _⟩
  |str d=>
   cases e
   cases (show _=_ from hx)
   cases rx
   cases (show _=_ from hy.1)
   obtain⟨t2,rfl⟩:=ry
   exact⟨RcAt.bool_str _ _ _,RcNeAt.bool_str _ _ _,EqAt.bool_str _ _ _⟩
  |raw d=>cases e
  |dct _ _=>cases e
  |dci _ _=>cases e
  |exc d=>cases e
  |scr d=>cases e
  |tup d=>
   cases e
   cases (show _=_ from hx)
   cases rx
   obtain⟨a2,_,_,rfl,_,_,_,_,p2⟩:=dD I hs hy ry
   exact⟨RcAt.bool_tuple _ p2 hu,RcNeAt.bool_tuple _ p2 hu,EqAt.bool_tuple _ p2 hu⟩
  |lst d=>
   cases e
   cases (show _=_ from hx)
   cases rx
   obtain⟨a2,_,_,rfl,_,_,_,_,p2⟩:=dg I hs hy ry
   exact⟨RcAt.bool_list _ p2 hu,RcNeAt.bool_list _ p2 hu,EqAt.bool_list _ p2 hu⟩
 |int c=>
  cases y with
  |non=>
   cases e
   cases (show _=_ from hx)
   obtain⟨t1,rfl⟩:=rx
   cases (show _=_ from hy)
   cases ry
   exact⟨RcAt.int_none _ _,RcNeAt.int_none _ _,EqAt.int_none _ _⟩
  |bl d=>
   cases e
   cases (show _=_ from hx)
   obtain⟨t1,rfl⟩:=rx
   cases (show _=_ from hy)
   cases ry
   exact⟨RcAt.int_bool _ _ _,RcNeAt.int_bool _ _ _,EqAt.int_bool _ _ _⟩
  |int d=>
   cases e
   cases (show _=_ from hx)
   obtain⟨t1,rfl⟩:=rx
   cases (show _=_ from hy)
   obtain⟨t2,rfl⟩:=ry
   exact⟨RcAt.int_int _ _ _ _,RcNeAt.int_int _ _ _ _,EqAt.int_int _ _ _ _⟩
  |str d=>
   cases e
   cases (show _=_ from hx)
   obtain⟨t1,rfl⟩:=rx
   cases (show _=_ from hy.1)
   obtain⟨t2,rfl⟩:=ry
   exact⟨RcAt.int_str _ _ _ _,RcNeAt.int_str _ _ _ _,EqAt.int_str _ _ _ _⟩
  |raw d=>cases e
  |dct _ _=>cases e
  |dci _ _=>cases e
  |exc d=>cases e
  |scr d=>cases e
  |tup d=>
   cases e
   cases (show _=_ from hx)
   obtain⟨t1,rfl⟩:=rx
   obtain⟨a2,_,_,rfl,_,_,_,_,p2⟩:=dD I hs hy ry
   exact⟨RcAt.int_tuple _ _ p2 hu,RcNeAt.int_tuple _ _ p2 hu,EqAt.int_tuple _ _ p2 hu⟩
  |lst d=>
   cases e
   cases (show _=_ from hx)
   obtain⟨t1,rfl⟩:=rx
   obtain⟨a2,_,_,rfl,_,_,_,_,p2⟩:=dg I hs hy ry
   exact⟨RcAt.int_list _ _ p2 hu,RcNeAt.int_list _ _ p2 hu,EqAt.int_list _ _ p2 hu⟩
 |str c=>
  cases y with
  |non=>
   cases e
   cases (show _=_ from hx.1)
   obtain⟨t1,rfl⟩:=rx
   cases (show _=_ from hy)
   cases ry
   exact⟨RcAt.str_none _ _,RcNeAt.str_none _ _,EqAt.str_none _ _⟩
  |bl d=>
   cases e
   cases (show _=_ from hx.1)
   obtain⟨t1,rfl⟩:=rx
   cases (show _=_ from hy)
   cases ry
   exact⟨RcAt.str_bool _ _ _,RcNeAt.str_bool _ _ _,EqAt.str_bool _ _ _⟩
  |int d=>
   cases e
   cases (show _=_ from hx.1)
   obtain⟨t1,rfl⟩:=rx
   cases (show _=_ from hy)
   obtain⟨t2,rfl⟩:=ry
   exact⟨RcAt.str_int _ _ _ _,RcNeAt.str_int _ _ _ _,EqAt.str_int _ _ _ _⟩
  |str d=>
   cases e
   cases (show _=_ from hx.1)
   obtain⟨t1,rfl⟩:=rx
   cases (show _=_ from hy.1)
   obtain⟨t2,rfl⟩:=ry
   exact⟨RcAt.str_str _ _ _ _,RcNeAt.str_str _ _ _ _,EqAt.str_str _ _ _ _⟩
  |raw d=>cases e
  |dct _ _=>cases e
  |dci _ _=>cases e
  |exc d=>cases e
  |scr d=>cases e
  |tup d=>
   cases e
   cases (show _=_ from hx.1)
   obtain⟨t1,rfl⟩:=rx
   obtain⟨a2,_,_,rfl,_,_,_,_,p2⟩:=dD I hs hy ry
   exact⟨RcAt.str_tuple _ _ p2 hu,RcNeAt.str_tuple _ _ p2 hu,EqAt.str_tuple _ _ p2 hu⟩
  |lst d=>
   cases e
   cases (show _=_ from hx.1)
   obtain⟨t1,rfl⟩:=rx
   obtain⟨a2,_,_,rfl,_,_,_,_,p2⟩:=dg I hs hy ry
   exact⟨RcAt.str_list _ _ p2 hu,RcNeAt.str_list _ _ p2 hu,EqAt.str_list _ _ p2 hu⟩
 |raw _=>cases y<;>cases e
 |dct _ _=>cases y<;>cases e
 |dci _ _=>cases y<;>cases e
 |exc _=>cases y<;>cases e
 |scr c=>cases y<;>cases e
 |tup c=>
  cases y with
  |non=>
   cases e
   obtain⟨a1,_,_,rfl,_,_,_,_,p1⟩:=dD I hs hx rx
   cases (show _=_ from hy)
   cases ry
   exact⟨RcAt.tuple_none p1 hu,RcNeAt.tuple_none p1 hu,EqAt.tuple_none p1 hu⟩
  |bl d=>
   cases e
   obtain⟨a1,_,_,rfl,_,_,_,_,p1⟩:=dD I hs hx rx
   cases (show _=_ from hy)
   cases ry
   exact⟨RcAt.tuple_bool _ p1 hu,RcNeAt.tuple_bool _ p1 hu,EqAt.tuple_bool _ p1 hu⟩
  |int d=>
   cases e
   obtain⟨a1,_,_,rfl,_,_,_,_,p1⟩:=dD I hs hx rx
   cases (show _=_ from hy)
   obtain⟨t2,rfl⟩:=ry
   exact⟨RcAt.tuple_int _ _ p1 hu,RcNeAt.tuple_int _ _ p1 hu,EqAt.tuple_int _ _ p1 hu⟩
  |str d=>
   cases e
   obtain⟨a1,_,_,rfl,_,_,_,_,p1⟩:=dD I hs hx rx
   cases (show _=_ from hy.1)
   obtain⟨t2,rfl⟩:=ry
   exact⟨RcAt.tuple_str _ _ p1 hu,RcNeAt.tuple_str _ _ p1 hu,EqAt.tuple_str _ _ p1 hu⟩
  |raw d=>cases e
  |dct _ _=>cases e
  |dci _ _=>cases e
  |exc d=>cases e
  |scr d=>cases e
  |tup d=>cases e
  |lst d=>
   cases e
   obtain⟨a1,_,_,rfl,_,_,_,_,p1⟩:=dD I hs hx rx
   obtain⟨a2,_,_,rfl,_,_,_,_,p2⟩:=dg I hs hy ry
   exact⟨RcAt.tuple_list p1 p2 hu,RcNeAt.tuple_list p1 p2 hu,EqAt.tuple_list p1 p2 hu⟩
 |lst c=>
  cases y with
  |non=>
   cases e
   obtain⟨a1,_,_,rfl,_,_,_,_,p1⟩:=dg I hs hx rx
   cases (show _=_ from hy)
   cases ry
   exact⟨RcAt.list_none p1 hu,RcNeAt.list_none p1 hu,EqAt.list_none p1 hu⟩
  |bl d=>
   cases e
   obtain⟨a1,_,_,rfl,_,_,_,_,p1⟩:=dg I hs hx rx
   cases (show _=_ from hy)
   cases ry
   exact⟨RcAt.list_bool _ p1 hu,RcNeAt.list_bool _ p1 hu,EqAt.list_bool _ p1 hu⟩
  |int d=>
   cases e
   obtain⟨a1,_,_,rfl,_,_,_,_,p1⟩:=dg I hs hx rx
   cases (show _=_ from hy)
   obtain⟨t2,rfl⟩:=ry
   exact⟨RcAt.list_int _ _ p1 hu,RcNeAt.list_int _ _ p1 hu,EqAt.list_int _ _ p1 hu⟩
  |str d=>
   cases e
   obtain⟨a1,_,_,rfl,_,_,_,_,p1⟩:=dg I hs hx rx
   cases (show _=_ from hy.1)
   obtain⟨t2,rfl⟩:=ry
   exact⟨RcAt.list_str _ _ p1 hu,RcNeAt.list_str _ _ p1 hu,EqAt.list_str _ _ p1 hu⟩
  |raw d=>cases e
  |dct _ _=>cases e
  |dci _ _=>cases e
  |exc d=>cases e
  |scr d=>cases e
  |tup d=>
   cases e
   obtain⟨a1,_,_,rfl,_,_,_,_,p1⟩:=dg I hs hx rx
   obtain⟨a2,_,_,rfl,_,_,_,_,p2⟩:=dD I hs hy ry
   exact⟨RcAt.list_tuple p1 p2 hu,RcNeAt.list_tuple p1 p2 hu,EqAt.list_tuple p1 p2 hu⟩
  |lst d=>cases e
end
def ev(f:D→D→Option Bool)(xs ys:List D)(j:Nat):Bool:=match xs[j]?,ys[j]? with
 |some x,some y=>(f x y).getD false
 |_,_=>false
theorem o7{f:D→D→Option Bool}:∀{xs ys:List D}{b:Bool},nz f xs ys=some b→∀(j:Nat) (x y:D),xs[j]? =some x→ys[j]? =some y→∃c,f x y=some c
 |[],_,_,_,_,_,_,h,_=>by simp at h
 |_::_,[],_,_,_,_,_,_,h=>by simp at h
 |x::xs,y::ys,b,e,j,x',y',hx,hy=>by
  unfold nz at e
  split at e
  ·rename_i b1 r1 e1 e2
   cases j with
   |zero=>simp at hx hy;subst hx hy;exact⟨_,e1⟩
   |succ j=>exact o7 e2 j x' y' (by simpa using hx) (by simpa using hy)
  ·cases e
theorem nB{f:D→D→Option Bool}:∀{xs ys:List D}{b:Bool},nz f xs ys=some b→b=((List.range (min xs.length ys.length)).all (ev f xs ys)&&xs.length==ys.length)
 |[],[],_,e=>by cases e;rfl
 |[],_::_,_,e=>by cases e;simp
 |_::_,[],_,e=>by cases e;simp
 |x::xs,y::ys,b,e=>by
  unfold nz at e
  split at e
  ·rename_i b1 r1 e1 e2
   cases e
   have h:=nB e2
   rw[List.length_cons,List.length_cons,Nat.succ_min_succ,List.range_succ_eq_map,List.all_cons,List.all_map]
   have e0:ev f (x::xs) (y::ys) 0=b1:=by unfold ev;simp[e1]
   have e3:(ev f (x::xs) (y::ys)∘Nat.succ)=ev f xs ys:=by funext j;simp[ev,Function.comp]
   have e4:(xs.length+1==ys.length+1)=(xs.length==ys.length):=by simp
   rw[e0,e3,e4,h,Bool.and_assoc]
  ·cases e
section
variable{X:Cx}{pins:List (Addr×Obj)}{σ:St}{F H:Hp}{s:Shared}
theorem h9{f:D→D→Option Bool}(h:∀x y v b,Den X.K F x v→Den X.K F y v→f x y=some b→b=true):∀{xs ys:List D}{vs:List V}{b:Bool},DenL X.K F xs vs→DenL X.K F ys vs→nz f xs ys=some b→b=true
 |[],[],_,_,_,_,e=>by cases e;rfl
 |[],_::_,_,_,h1,h2,_=>by
  cases (show _=_ from h1)
  obtain⟨v,r,z,_⟩:=h2
  cases z
 |_::_,[],_,_,h1,h2,_=>by
  cases (show _=_ from h2)
  obtain⟨v,r,z,_⟩:=h1
  cases z
 |x::xs,y::ys,_,b,⟨v,r,e1,q1,q2⟩,⟨v',r',e2,q3,q4⟩,e=>by
  subst e1
  cases e2
  unfold nz at e
  split at e
  ·rename_i b1 r1 f1 f2
   cases e
   rw[h x y v b1 q1 q3 f1,h9 h q2 q4 f2]
   rfl
  ·cases e
theorem mz{x y:D}{v:V}{b:Bool}(hx:Den X.K F x v)(hy:Den X.K F y v)(e:qI x y=some b):b=true:=by
 cases x<;>cases y<;>first
  |(cases e;done)
  |(cases e;cases (show _=_ from hx);cases (show _=_ from hy);first | rfl | simp)
  |(cases e;cases (show _=_ from hx.1);cases (show _=_ from hy.1);simp)
  |(cases e;cases (show _=_ from hx);cases (show _=_ from hy.1))
  |(cases e;cases (show _=_ from hx.1);cases (show _=_ from hy))
  |(cases e;obtain⟨_,_,z,_⟩:=hx;subst z;cases (show _=_ from hy);done)
  |(cases e;obtain⟨_,_,z,_⟩:=hx;subst z;cases (show _=_ from hy.1);done)
  |(cases e;obtain⟨_,z,_⟩:=hx;subst z;cases (show _=_ from hy);done)
  |(cases e;obtain⟨_,z,_⟩:=hx;subst z;cases (show _=_ from hy.1);done)
  |(cases e;obtain⟨_,_,z,_⟩:=hy;subst z;cases (show _=_ from hx);done)
  |(cases e;obtain⟨_,_,z,_⟩:=hy;subst z;cases (show _=_ from hx.1);done)
  |(cases e;obtain⟨_,z,_⟩:=hy;subst z;cases (show _=_ from hx);done)
  |(cases e;obtain⟨_,z,_⟩:=hy;subst z;cases (show _=_ from hx.1);done)
  |(cases e;obtain⟨_,_,z,h2,_⟩:=hx;obtain⟨_,_,z',ET,_⟩:=hy;subst z;cases z';rw[h2] at ET;cases ET;done)
  |(cases e;cases (show _=_ from hx);cases (show _=_ from hy);done)
  |(cases e;cases (show _=_ from hx.1);cases (show _=_ from hy.1);done)
theorem h7(I:Inv X pins σ H s)(hs:Same F H):∀(n:Nat) (x y:D) (v:V) (b:Bool),Den X.K F x v→Den X.K F y v→jv n x y=some b→b=true
 |0,x,y,v,b,hx,hy,e=>mz hx hy (by unfold jv at e;exact e)
 |n+1,x,y,v,b,hx,hy,e=>by
  unfold jv at e
  split at e
  ·rename_i xs ys _
   obtain⟨a,vs,rfl,h2,h3,_⟩:=hx
   obtain⟨a',wY,z,k2,k3,_⟩:=hy
   cases z
   rw[h2] at k2
   cases k2
   exact h9 (h7 I hs _) h3 k3 (by simpa using e)
  ·rename_i xs ys _
   obtain⟨a,vs,rfl,h2,h3,_⟩:=hx
   obtain⟨a',wY,z,k2,k3,_⟩:=hy
   cases z
   rw[h2] at k2
   cases k2
   exact h9 (h7 I hs _) h3 k3 (by simpa using e)
  ·rename_i xs ys _
   obtain⟨a,rfl,h2,_⟩:=hx
   obtain⟨a',wY,z,k2,k3,_⟩:=hy
   cases z
   have hv:=I.list_inj (Same.seq hs h2) (SqL.of (hs _ _ k2))
   rw[←hv] at k3
   exact h9 (h7 I hs _) (DenL.ints xs) k3 (by simpa using e)
  ·exact mz hx hy e
theorem Vals.at{vs:List V}{aG:List Value}(r:Vals vs aG){j:Nat}(h:j<aG.toArray.size):∃v,vs[j]? =some v∧RelV v aG.toArray[j]:=by
 have hl:=r.length
 have hj:j<vs.length:=by rw[List.size_toArray] at h;omega
 obtain⟨u,e1,e2⟩:=r.get (List.getElem?_eq_getElem hj)
 refine⟨vs[j],List.getElem?_eq_getElem hj,?_⟩
 have:aG.toArray[j]=u:=by
  have:=(List.getElem?_eq_some_iff.mp e1).2
  simpa using this
 rw[this]
 exact e2
theorem kc{f:D→D→Option Bool}{A:Around}{xs ys:List D}{vs ws:List V}{aG d6:List Value}{b:Bool}(h1:DenL X.K F xs vs)(h2:DenL X.K F ys ws)(r1:Vals vs aG)(r2:Vals ws d6)(e:nz f xs ys=some b)
 (ih:∀x y v w u t c,Den X.K F x v→Den X.K F y w→RelV v u→RelV w t→f x y=some c→EqAt A s u t c):
 ∀j (k1:j<aG.toArray.size) (k2:j<d6.toArray.size),EqAt A s aG.toArray[j] d6.toArray[j] (ev f xs ys j):=fun j k1 k2=>by
 obtain⟨v,e1,q1⟩:=Vals.at r1 k1
 obtain⟨w,e2,q2⟩:=Vals.at r2 k2
 obtain⟨x,e3,q3⟩:=h1.at e1
 obtain⟨y,e4,q4⟩:=h2.at e2
 obtain⟨c,hc⟩:=o7 e j x y e3 e4
 have:ev f xs ys j=c:=by unfold ev;rw[e3,e4];simp[hc]
 rw[this]
 exact ih x y v w _ _ c q3 q4 q1 q2 hc
theorem mG{f:D→D→Option Bool}{A:Around}(hu:A.units<cLine){xs ys:List D}{vs ws:List V}{aG d6:List Value}{b:Bool}{a a':Addr}(h1:DenL X.K F xs vs)(h2:DenL X.K F ys ws)(r1:Vals vs aG)(r2:Vals ws d6)
 (p1:s.heap.IsList a aG.toArray)(p2:s.heap.IsList a' d6.toArray)(e:nz f xs ys=some b)(hr:a=a'→b=true)
 (ih:∀x y v w u t c,Den X.K F x v→Den X.K F y w→RelV v u→RelV w t→f x y=some c→EqAt A.in1 s u t c):EqAll A s (.ref a) (.ref a') b:=by
 have l1:=h1.len
 have l2:=h2.len
 have l3:=r1.length
 have l4:=r2.length
 have hv:=nB e
 have core:RcAt A s (.ref a) (.ref a') b∧RcNeAt A s (.ref a) (.ref a') (!b):=by
  by_cases hl:xs.length=ys.length
  ·have hsz:aG.toArray.size=d6.toArray.size:=by rw[List.size_toArray,List.size_toArray];omega
   have hb:b=(List.range aG.toArray.size).all (ev f xs ys):=by
    rw[hv,hl,Nat.min_self,beq_self_eq_true,Bool.and_true]
    congr 2
    rw[List.size_toArray];omega
   rw[hb]
   exact⟨RcAt.lists p1 p2 hsz hu (kc h1 h2 r1 r2 e ih),RcNeAt.lists p1 p2 hsz hu (kc h1 h2 r1 r2 e ih)⟩
  ·have hb:b=false:=by rw[hv,show (xs.length==ys.length)=false from by simpa using hl,Bool.and_false]
   have hsz:(aG.toArray.size !=d6.toArray.size)=true:=by
    rw[List.size_toArray,List.size_toArray]
    simp
    omega
   rw[hb]
   exact⟨RcAt.lists_lengths p1 p2 hsz hu,RcNeAt.lists_lengths p1 p2 hsz hu⟩
 refine⟨core.1,core.2,?_⟩
 by_cases hq:a=a'
 ·rw[hr hq]
  subst hq
  exact EqAt.same _
 ·exact EqAt.of_refs hq core.1
theorem rN{f:D→D→Option Bool}{A:Around}(hu:A.units<cLine){xs ys:List D}{vs ws:List V}{aG d6:List Value}{b:Bool}{a a':Addr}(h1:DenL X.K F xs vs)(h2:DenL X.K F ys ws)(r1:Vals vs aG)(r2:Vals ws d6)
 (p1:s.heap.IsTuple a aG.toArray)(p2:s.heap.IsTuple a' d6.toArray)(e:nz f xs ys=some b)(hr:a=a'→b=true)
 (ih:∀x y v w u t c,Den X.K F x v→Den X.K F y w→RelV v u→RelV w t→f x y=some c→EqAt A.in1 s u t c):EqAll A s (.ref a) (.ref a') b:=by
 have l1:=h1.len
 have l2:=h2.len
 have l3:=r1.length
 have l4:=r2.length
 have hb:b=((List.range (min aG.toArray.size d6.toArray.size)).all (ev f xs ys)&&aG.toArray.size==d6.toArray.size):=by
  rw[nB e,List.size_toArray,List.size_toArray,←l3,←l4,←l1,←l2]
 have core:RcAt A s (.ref a) (.ref a') b∧RcNeAt A s (.ref a) (.ref a') (!b):=by
  rw[hb]
  exact⟨RcAt.tuples p1 p2 hu (kc h1 h2 r1 r2 e ih),RcNeAt.tuples p1 p2 hu (kc h1 h2 r1 r2 e ih)⟩
 refine⟨core.1,core.2,?_⟩
 by_cases hq:a=a'
 ·rw[hr hq]
  subst hq
  exact EqAt.same _
 ·exact EqAt.of_refs hq core.1
theorem qJ(I:Inv X pins σ H s)(hs:Same F H):∀(n:Nat) (A:Around) (x y:D) (v w:V) (u t:Value) (b:Bool),A.units+n<cLine→Den X.K F x v→Den X.K F y w→RelV v u→RelV w t→jv n x y=some b→EqAll A s u t b
 |0,A,x,y,v,w,u,t,b,hu,hx,hy,rx,ry,e=>o8 I hs (by omega) hx hy rx ry (by unfold jv at e;exact e)
 |n+1,A,x,y,v,w,u,t,b,hu,hx,hy,rx,ry,e=>by
  have CK:A.units<cLine:=by omega
  have GN:A.in1.units+n<cLine:=by show A.units+1+n<cLine;omega
  have hrefl:=h7 (F:=F) I hs (n+1) x y
  have ih:∀x y v w u t c,Den X.K F x v→Den X.K F y w→RelV v u→RelV w t→jv n x y=some c→EqAt A.in1 s u t c:=fun x y v w u t c q1 q2 q3 q4 q5=>(qJ I hs n A.in1 x y v w u t c GN q1 q2 q3 q4 q5).eq
  have e0:=e
  unfold jv at e
  split at e
  ·rename_i xs ys heq
   cases heq
   obtain⟨a,vs,aG,rfl,Bi,h2,h3,r1,p1⟩:=dD I hs hx rx
   obtain⟨a',wY,its',rfl,Bj,k2,k3,B4,BW⟩:=dD I hs hy ry
   exact rN CK h3 k3 r1 B4 p1 BW e (fun z=>by subst z;exact hrefl v b hx (by rw[Bi,←Bj];exact hy) e0) ih
  ·rename_i xs ys heq
   cases heq
   obtain⟨a,vs,aG,rfl,Bi,h2,h3,r1,p1⟩:=dg I hs hx rx
   obtain⟨a',wY,its',rfl,Bj,k2,k3,B4,BW⟩:=dg I hs hy ry
   exact mG CK h3 k3 r1 B4 p1 BW e (fun z=>by subst z;exact hrefl v b hx (by rw[Bi,←Bj];exact hy) e0) ih
  ·rename_i xs ys heq
   cases heq
   obtain⟨a,aG,rfl,Bi,h2,r1,p1⟩:=AB I hs hx rx
   obtain⟨a',wY,its',rfl,Bj,k2,k3,B4,BW⟩:=dg I hs hy ry
   exact mG CK (DenL.ints _) k3 r1 B4 p1 BW e (fun z=>by subst z;exact hrefl v b hx (by rw[Bi,←Bj];exact hy) e0) ih
  ·exact o8 I hs CK hx hy rx ry e
end
def jw(x y:D):M D:=match jv 6 x y with | some b=>M.ret (.bl b) | none=>M.stuck
def jx(x y:D):M D:=match jv 6 x y with | some b=>M.ret (.bl (!b)) | none=>M.stuck
def B6(K:W.Frag):R2:=fun x y H Q=>∃F dx dy b,Same F H∧Den K F dx x∧Den K F dy y∧jv 6 dx dy=some b∧Q (.bl b) H
def Cb(K:W.Frag):R2:=fun x y H Q=>∃F dx dy b,Same F H∧Den K F dx x∧Den K F dy y∧jv 6 dx dy=some b∧Q (.bl (!b)) H
section
variable{X:Cx}{Xw:Nat→Hp→Prop}{a b:Expr}{δa δb:DE}{pos:Pos}
theorem vL(hu:X.A.units+64<cLine):OpR X (compareOp .Eq) (B6 X.K):=by
 intro pins s σ H x y v u Q I rx ry h
 obtain⟨F,dx,dy,b,hs,hx,hy,e,q⟩:=h
 exact(qJ I hs 6 X.A dx dy x y v u b (by omega) hx hy rx ry e).rc _ _ _ _ ⟨.bl b,H,I,rfl,q⟩
theorem z4(hu:X.A.units+64<cLine):OpR X (compareOp .NotEq) (Cb X.K):=by
 intro pins s σ H x y v u Q I rx ry h
 obtain⟨F,dx,dy,b,hs,hx,hy,e,q⟩:=h
 exact(qJ I hs 6 X.A dx dy x y v u b (by omega) hx hy rx ry e).ne _ _ _ _ ⟨.bl (!b),H,I,rfl,q⟩
theorem vN{K:W.Frag}:rV K (B6 K) jw:=fun Xw F H x y dx dy Q s hx hy w=>by
 unfold jw at w
 split at w
 ·rename_i b e
  exact⟨F,dx,dy,b,s,hx,hy,e,WP.now w s rfl⟩
 ·exact w.elim
theorem z7{K:W.Frag}:rV K (Cb K) jx:=fun Xw F H x y dx dy Q s hx hy w=>by
 unfold jx at w
 split at w
 ·rename_i b e
  exact⟨F,dx,dy,b,s,hx,hy,e,WP.now w s rfl⟩
 ·exact w.elim
theorem pZ(hu:X.A.units+64<cLine)(ha:PD X Xw a δa)(hb:PD X Xw b δb):oT X Xw (.Compare a [.Eq] [b] pos) (da (d2 jw δa δb)):=kj (vL hu) vN ha hb
theorem eW(hu:X.A.units+64<cLine)(ha:PD X Xw a δa)(hb:PD X Xw b δb):oT X Xw (.Compare a [.NotEq] [b] pos) (da (d2 jx δa δb)):=kj (z4 hu) z7 ha hb
theorem mV(hu:X.A.units+64<cLine)(ha:PD X Xw a δa)(hb:PD X Xw b δb):PD X Xw (.Compare a [.Eq] [b] pos) (d2 jw δa δb):=nY (vL hu) vN ha hb
end
def PDW(X:Cx)(Xw:Nat→Hp→Prop)(e:Expr)(δ:DT):Prop:=PW X e (Ey X.K Xw δ)
theorem PW.weak{X:Cx}{e:Expr}{t t':TT}(h:PW X e t)(k:∀σ H Q,t' σ H Q→t σ H Q):PW X e t':=fun wh pins s σ H Q I w=>h wh pins s σ H Q I (k σ H Q w)
section
variable{X:Cx}{Xw:Nat→Hp→Prop}{a b c:Expr}{rest:List Expr}{δa δb δc:DE}{τa τb:DT}{pos:Pos}
theorem gz(ha:oT X Xw a τa):PDW X Xw (.BoolOp .Or [a] pos) τa:=Ax ha
theorem jd(ha:oT X Xw a τa)(hb:PDW X Xw (.BoolOp .Or (b::rest) pos) τb):PDW X Xw (.BoolOp .Or (a::b::rest) pos) (ju τa τb):=PW.weak (B3 ha hb) fun σ H Q ⟨F,ρ,s,w⟩=>by
 refine⟨F,ρ,s,WPB.mono (WPB.bindB w) fun v H1 ⟨F1,e1,w1⟩=>?_⟩
 cases v with
 |false=>exact⟨F1,ρ,s.ext e1,w1⟩
 |true=>exact w1 _ _ (Ext.refl e1.fh)
theorem PDW.t(h:PDW X Xw a τa):oT X Xw a τa:=PW.pt h
theorem cN(ha:oT X Xw a τa):oT X Xw (.UnaryOp .Not a pos) (b7 τa):=PT.weak (Av ha) fun σ H Q ⟨F,ρ,s,w⟩=>
 ⟨F,ρ,s,WPB.mono (WPB.bindB w) fun v H1 ⟨F1,e1,w1⟩=>w1 _ _ (Ext.refl e1.fh)⟩
def qh:D→M Bool
 | .non=>M.ret false
 | .bl b=>M.ret b
 | .lst ds=>M.ret (!ds.isEmpty)
 | .tup ds=>M.ret (!ds.isEmpty)
 |_=>M.stuck
def bR(δ:DE):DT:=fun ρ=>δ ρ>>=qh
theorem DenL.isEmpty{K:W.Frag}{F:Hp}{ds:List D}{vs:List V}(h:DenL K F ds vs):ds.isEmpty=vs.isEmpty:=by
 have:=h.len
 cases ds<;>cases vs<;>simp_all
theorem cz(ha:PD X Xw a δa)(he:∀whole,isTrue a X.env whole=(do let v←whole;standAt a.pos;holding [v] (truthy v)):=by intro _;rfl):oT X Xw a (bR δa):=PT.weak (wk ha he) fun σ H Q ⟨F,ρ,s,w⟩=>by
 refine⟨F,ρ,s,WP.mono (WPB.bind (K:=X.K) w) fun v H1 ⟨F1,d,e1,q1,w1⟩=>?_⟩
 cases d with
 |non=>cases (show _=_ from q1);exact⟨false,rfl,w1 _ _ (Ext.refl e1.fh)⟩
 |bl b=>cases (show _=_ from q1);exact⟨b,rfl,w1 _ _ (Ext.refl e1.fh)⟩
 |lst ds=>
  obtain⟨a,vs,rfl,h2,h3,_⟩:=q1
  exact⟨!ds.isEmpty, .inl ⟨vs,SqL.of (e1.fh _ _ h2),by rw[h3.isEmpty]⟩,w1 _ _ (Ext.refl e1.fh)⟩
 |tup ds=>
  obtain⟨a,vs,rfl,h2,h3,_⟩:=q1
  exact⟨!ds.isEmpty, .inr (.inl ⟨vs,SqT.of (e1.fh _ _ h2),by rw[h3.isEmpty]⟩),w1 _ _ (Ext.refl e1.fh)⟩
 |_=>exact w1.elim
theorem n8{op}(h:PD X Xw a δa):PD X Xw (.BoolOp op [a] pos) δa:=Ak h
theorem lj(ha:PD X Xw a δa)(hb:PD X Xw (.BoolOp .And (b::rest) pos) δb):PD X Xw (.BoolOp .And (a::b::rest) pos) (de δa δb):=PE.weak (Af ha hb) fun σ H Q ⟨F,ρ,s,w⟩=>by
 refine⟨F,ρ,s,WP.mono (WP.bind w) fun v H1 ⟨F1,d,e1,q1,w1⟩=>?_⟩
 cases d with
 |bl k=>
  refine⟨k,q1,?_⟩
  cases k with
  |true=>exact⟨F1,ρ,s.ext e1,w1⟩
  |false=>exact WP.now w1 e1.fh rfl
 |_=>exact w1.elim
theorem Ac(ha:PD X Xw a δa):PD X Xw (.UnaryOp .Not a pos) (yH δa):=PE.weak (Aj ha) fun σ H Q ⟨F,ρ,s,w⟩=>by
 refine⟨F,ρ,s,WP.mono (WP.bind w) fun v H1 ⟨F1,d,e1,q1,w1⟩=>?_⟩
 cases d with
 |bl k=>exact⟨k,q1,WP.now w1 e1.fh rfl⟩
 |_=>exact w1.elim
theorem sH(hc:oT X Xw c τa)(ha:PD X Xw a δa)(hb:PD X Xw b δb):PD X Xw (.IfExp c a b pos) (yF τa δa δb):=PE.weak (v8 hc ha hb) fun σ H Q ⟨F,ρ,s,w⟩=>by
 refine⟨F,ρ,s,WPB.mono (WP.bindB w) fun v H1 ⟨F1,e1,w1⟩=>?_⟩
 cases v with
 |true=>exact⟨F1,ρ,s.ext e1,w1⟩
 |false=>exact⟨F1,ρ,s.ext e1,w1⟩
def qF(p q:Int→Int→Bool)(a b c:DE):DE:=fun ρ=>a ρ>>=fun x=>b ρ>>=fun y=>match x,y with
 | .int i, .int j=>if p i j then c ρ>>=fun z=>gI (fun i j=> .bl (q i j)) y z else M.ret (.bl false)
 |_,_=>M.stuck
theorem m7{p q:Int→Int→Bool}:∀σ H Q,tD X.K Xw (qF p q δa δb δc) σ H Q→rL (ur fun i j=> .bl (p i j)) (ur fun i j=> .bl (q i j)) (tD X.K Xw δa) (tD X.K Xw δb) (tD X.K Xw δc) σ H Q:=fun σ H Q ⟨F,ρ,s,w⟩=>by
 refine⟨F,ρ,s,WP.mono (WP.bind w) fun v H1 ⟨F1,d,e1,q1,w1⟩=>?_⟩
 refine⟨F1,ρ,s.ext e1,WP.mono (WP.bind w1) fun u H2 ⟨F2,d',e2,q2,w2⟩=>?_⟩
 cases d with
 |int i=>
  cases d' with
  |int j=>
   refine⟨i,j,q1,q2,p i j,rfl,?_⟩
   have w2:WP X.K Xw F2 H2 (if p i j then δc ρ>>=fun z=>gI (fun i j=> .bl (q i j)) (.int j) z else M.ret (.bl false)) Q:=w2
   cases hp:p i j with
   |false=>
    rw[hp] at w2
    exact WP.now w2 e2.fh rfl
   |true=>
    rw[hp] at w2
    refine⟨F2,ρ,(s.ext e1).ext e2,WP.mono (WP.bind w2) fun u' H3 ⟨F3,FF,e3,q3,w3⟩=>?_⟩
    exact pR (K:=X.K) (gv:=fun i j=> .bl (q i j)) (gd:=fun i j=> .bl (q i j)) (fun _ _ _=>rfl) Xw F3 H3 u u' (.int j) FF Q e3.fh q2 q3 w3
  |_=>exact w2.elim
 |_=>exact w2.elim
theorem vR{op rn:CmpOp}{p q:Int→Int→Bool}(ho:OpR X (compareOp op) (ur fun i j=> .bl (p i j)))(ij:OpR X (compareOp rn) (ur fun i j=> .bl (q i j)))(ha:PD X Xw a δa)(hb:PD X Xw b δb)(hc:PD X Xw c δc)
 (hm:lastMarks [op,rn] [b,c]=false:=by with_unfolding_all rfl):PD X Xw (.Compare a [op,rn] [b,c] pos) (qF p q δa δb δc):=PE.weak (vX ho ij ha hb hc hm) m7
theorem we{op rn:CmpOp}{p q:Int→Int→Bool}(ho:OpR X (compareOp op) (ur fun i j=> .bl (p i j)))(ij:OpR X (compareOp rn) (ur fun i j=> .bl (q i j)))(ha:PD X Xw a δa)(hb:PD X Xw b δb)(hc:PD X Xw c δc)
 (hm:lastMarks [op,rn] [b,c]=false:=by with_unfolding_all rfl):oT X Xw (.Compare a [op,rn] [b,c] pos) (da (qF p q δa δb δc)):=PT.weak (wg ho ij ha hb hc hm) fun σ H Q ⟨F,ρ,s,w⟩=>by
 refine m7 σ H _ ⟨F,ρ,s,WP.mono (WPB.bind w) fun v H1 ⟨F1,d,e1,q1,w1⟩=>?_⟩
 cases d with
 |bl k=>exact⟨k,q1,w1 _ _ (Ext.refl e1.fh)⟩
 |_=>exact w1.elim
def oQ(K:W.Frag)(r:List V→Hp→VK→Prop)(g:List D→M D):Prop:=∀(Xw:Nat→Hp→Prop) (F H:Hp) (vs:List V) (ds:List D) (Q:VK),Same F H→DenL K F ds vs→WP K Xw F H (g ds) Q→r vs H Q
variable{x:Str}{p:Pos}{e:Expr}{es:List Expr}{δs:DA}{id T:String}{r:List V→Hp→VK→Prop}{g:List D→M D}
theorem wN(h:oQ X.K r g):∀σ H Q,tD X.K Xw (dA g δs) σ H Q→Ew r (Fv X.K Xw δs) σ H Q:=fun σ H Q ⟨F,ρ,s,w⟩=>
 ⟨F,ρ,s,WPL.mono (WP.bindL w) fun vs H1 ⟨F1,ds,e1,q1,w1⟩=>h Xw F1 H1 vs ds Q e1.fh q1 w1⟩
theorem f9(hc:CallR X (.builtin id) r)(hd:oQ X.K r g)(hg:Gl X x)(hm:X.mg x=none)(hv:bootBuiltins x=some (.builtin id))(ha:j0 X Xw (e::es) δs)(hn:x≠"__name__":=by decide)(ig:(x==("__debug__":Str))=false:=by decide)
 (he:starEach (e::es) X.env=(false,eval e X.env)::starEach es X.env:=by rfl)(ke:(backTo pos (starEach es X.env)).any (·.1)=false:=by rfl):PD X Xw (.Call (.Name x p) (e::es) [] pos) (dA g δs):=
 PE.weak (vW hc hg hm hv ha hn ig he ke) (wN hd)
theorem mU(hc:CallR X (.type T) r)(hd:oQ X.K r g)(hg:Gl X x)(hm:X.mg x=none)(hv:bootBuiltins x=some (.type T))(ha:j0 X Xw (e::es) δs)(hn:x≠"__name__":=by decide)(ig:(x==("__debug__":Str))=false:=by decide)
 (he:starEach (e::es) X.env=(false,eval e X.env)::starEach es X.env:=by rfl)(ke:(backTo pos (starEach es X.env)).any (·.1)=false:=by rfl):PD X Xw (.Call (.Name x p) (e::es) [] pos) (dA g δs):=
 PE.weak (um hc hg hm hv ha hn ig he ke) (wN hd)
def br:List D→M D
 |[.lst ds]=>M.ret (.int ds.length)
 |[.tup ds]=>M.ret (.int ds.length)
 |[.str x]=>M.ret (.int x.length)
 |[.scr ns]=>M.ret (.int ns.length)
 |_=>M.stuck
theorem tW:oQ X.K (fun xs H Q=>(∃p ys,xs=[.ref p]∧(SqL X.K H p ys∨SqT X.K H p ys)∧Q (.int ys.length) H)∨∃z,xs=[.str z]∧z.length≤sizeLine∧Q (.int z.length) H) br:=fun Xw F H vs ds Q s h w=>by
 unfold br at w
 split at w
 ·obtain⟨v,rfl,h1⟩:=h.one
  obtain⟨a,vs,rfl,h2,h3,_⟩:=h1
  exact .inl ⟨a,vs,rfl, .inl (SqL.of (s _ _ h2)),by rw[←h3.len];exact WP.now w s rfl⟩
 ·obtain⟨v,rfl,h1⟩:=h.one
  obtain⟨a,vs,rfl,h2,h3,_⟩:=h1
  exact .inl ⟨a,vs,rfl, .inr (SqT.of (s _ _ h2)),by rw[←h3.len];exact WP.now w s rfl⟩
 ·obtain⟨v,rfl,h1⟩:=h.one
  cases (show _=_ from h1.1)
  exact .inr ⟨_,rfl,by have:=h1.2;have:=cJ;omega,WP.now w s rfl⟩
 ·obtain⟨v,rfl,h1⟩:=h.one
  obtain⟨a,rfl,h2,_⟩:=h1
  exact .inl ⟨a,_,rfl, .inl (Same.seq s h2),by rw[List.length_map];exact WP.now w s rfl⟩
 ·exact w.elim
theorem bO(hg:Gl X "len")(hm:X.mg "len"=none)(ha:j0 X Xw [e] δs)(he:starEach [e] X.env=[(false,eval e X.env)]:=by rfl):PD X Xw (.Call (.Name "len" p) [e] [] pos) (dA br δs):=
 f9 (ni.or nj) tW hg hm PySem.boot_len ha (by decide) (by decide) he rfl
end
theorem WP.xw{K:W.Frag}{Xw Xw':Nat→Hp→Prop}{F H:Hp}{m:M D}{Q:VK}(h:WP K Xw F H m Q)(k:∀n H,Xw n H→Xw' n H):WP K Xw' F H m Q:=by
 match m,h with
 |none,h=>exact h
 |some (.ok d),h=>exact h
 |some (.ex n),h=>exact fun F' H' e=>k n H' (h F' H' e)
theorem dP{X:Cx}{Xw:Nat→Hp→Prop}{st:Stmt}{τ:DS}(h:fx X.nox (fun _ _=>False) st τ):fx X Xw st (fun ρ=>noex (τ ρ)):=fun F₀ H₀ pins s σ H D I ⟨F,ρ,S,w⟩=>by
 have w:WPS X.K Xw F₀ H₀ (noex (τ ρ)) D:=w
 have w':tS X.K (fun _ _=>False) F₀ H₀ τ D σ H:=by
  refine⟨F,ρ,S,?_⟩
  rcases(τ ρ).cs with e | ⟨n,e⟩ | ⟨o,e⟩
  ·rw[e] at w;exact w.elim
  ·rw[e] at w;exact w.elim
  ·rw[e] at w⊢
   cases o with
   |nx ρ'=>exact w
   |rt d=>exact w
 refine wpAny_mono (h F₀ H₀ pins s σ H D (I.wish _) w') (fun f s' q=>SP.unwish q) fun _ _ z=>z.elim
def EX(cv:Nat→Value)(Xw:Nat→Hp→Prop):XK:=fun c _ H=>∃n,c=cv n∧Xw n H
def xa(K:W.Frag)(cv:Nat→Value)(k:Nat)(f:List D→M D):Sp:=fun vs H Q E=>∃F ds,Same F H∧DenL K F ds vs∧vs.length=k∧WP K (fun n H'=>E (cv n) none H') F H (f ds) Q
def bE(n:Nat)(τ:DS):List D→M D:=fun ds=>τ (ds.map (fun d=>some (Sl.fz d))++List.replicate (n - ds.length) none)>>=fun o=>match o with
 | .nx _=>M.ret .non
 | .rt d=>M.ret d
section
variable{P:Program}{w:World}{K:W.Frag}{mg:Str→Option Value}{base:Heap}{CX:qw}{cv:Nat→Value}
theorem Bn{x qual:Str}{st:Stmt}{f:Addr}{fd:FuncData}{N ps:List Str}{k:Nat}{τ:DS}(Fn:Fun K x qual st f fd)(S:FnScope N ps (ag st))
 (fO:∀(a5:Value) (A:Around) (outer:List Env) (s:Shared) (H:Hp) (E:XK),Room k (A.deeper (envOfC qual (ag st) s.heap.objs.size f a5))→
  PSDs (aL CX P w K mg base N qual (ag st) f a5 A outer s H E) (fun n H'=>E (cv n) none H') (aK st) τ):FnOk P w K mg base CX (k+1) f fd ps (xa K cv ps.length (bE N.length τ)):=by
 obtain⟨oc,od,kV,doc,pm,an,a5,ct,vO,rfl,lk,qr⟩:=Fn.ex
 refine Bp lk qr S (fun vs H Q E ⟨_,_,_,_,hl,_⟩=>hl) fun A outer s H vs Q E hr qu=>?_
 obtain⟨F,ds,fh,hd,hl,hw⟩:=qu
 refine⟨_,fO a5 A outer s H E hr F H,F,ds.map (fun d=>some (Sl.fz d))++List.replicate (N.length - ds.length) none,⟨Ext.refl fh,⟨fh,fun i sl e=>?_⟩,?_,fun i c a e=>?_,fun i j c c' a e=>?_⟩,?_⟩
 ·have hlen:=hd.len
  by_cases hi:i<ds.length
  ·rw[List.getElem?_append_left (by simpa using hi),List.getElem?_map] at e
   cases q:ds[i]? with
   |none=>rw[q] at e;cases e
   |some d=>
    rw[q] at e
    cases e
    obtain⟨v,e1,e2⟩:=hd.get q
    refine⟨v,?_,e2⟩
    unfold L2.start
    rw[List.getElem?_append_left (by simp;omega),List.getElem?_map,e1]
    rfl
  ·rw[List.getElem?_append_right (by simpa using hi),List.getElem?_replicate] at e
   split at e<;>cases e
 ·have hlen:=hd.len
  unfold L2.start
  simp[hlen]
 ·exfalso
  by_cases hi:i<ds.length
  ·rw[List.getElem?_append_left (by simpa using hi),List.getElem?_map] at e
   cases q:ds[i]? with
   |none=>rw[q] at e;cases e
   |some d=>rw[q] at e;cases e
  ·rw[List.getElem?_append_right (by simpa using hi),List.getElem?_replicate] at e
   split at e<;>cases e
 ·exfalso
  by_cases hi:i<ds.length
  ·rw[List.getElem?_append_left (by simpa using hi),List.getElem?_map] at e
   cases q:ds[i]? with
   |none=>rw[q] at e;cases e
   |some d=>rw[q] at e;cases e
  ·rw[List.getElem?_append_right (by simpa using hi),List.getElem?_replicate] at e
   split at e<;>cases e
 ·have hw:WP K (fun n H'=>E (cv n) none H') F H (τ (ds.map (fun d=>some (Sl.fz d))++List.replicate (N.length - ds.length) none)>>=fun o=>match o with | .nx _=>M.ret .non | .rt d=>M.ret d) Q:=hw
  rcases(τ (ds.map (fun d=>some (Sl.fz d))++List.replicate (N.length - ds.length) none)).cs with e | ⟨n,e⟩ | ⟨o,e⟩
  ·rw[e] at hw;exact hw.elim
  ·rw[e] at hw⊢;exact hw
  ·rw[e] at hw⊢
   cases o with
   |nx ρ'=>exact fun σ' F' H' s'=>hw .non H' F' s'.ext rfl
   |rt d=>exact fun v F' H' e' q=>hw v H' F' e' q
end
section
variable{X:Cx}{Xw:Nat→Hp→Prop}{CX:qw}{cv:Nat→Value}{k m:Nat}{f:Addr}{fd:FuncData}{ps:List Str}{g:List D→M D}{x:Str}{p pos:Pos}{e:Expr}{es:List Expr}{δs:DA}
theorem xZ(F:FnOk X.prog X.w X.K X.mg X.base CX k f fd ps (xa X.K cv m g))(hr:Room k X.A)(hg:Gl X x)(hm:X.mg x=some (.ref f))(hk:PySem.W.keepIn X.K (.ref f)=true)(hb:Binds X.K fd ps [])(hx:Passes CX X (EX cv Xw))
 (ha:j0 X Xw (e::es) δs)(hl:(e::es).length=m)(ig:(x==("__debug__":Str))=false:=by decide)(he:starEach (e::es) X.env=(false,eval e X.env)::starEach es X.env:=by rfl)(ke:(backTo pos (starEach es X.env)).any (·.1)=false:=by rfl):
 PD X Xw (.Call (.Name x p) (e::es) [] pos) (fun ρ=>δs ρ>>=fun ds=>if ds.length=m then g ds else M.stuck):=PE.weak (ye F hr hg hm hk hb .nil hx ha ig he ke) fun σ H Q ⟨F,ρ,s,w⟩=>by
 refine⟨F,ρ,s,WPL.mono (WP.bindL w) fun vs H1 ⟨F1,ds,e1,q1,w1⟩=>?_⟩
 split at w1
 ·rename_i DK
  refine⟨F1,ds,e1.fh,by simpa using q1,by rw[List.append_nil,←q1.len];exact DK,WP.xw w1 fun n H h=>⟨n,rfl,h⟩⟩
 ·exact w1.elim
theorem n0{x:Str}{d:D}{v:V}{u:Value}(hg:Gl X x)(hm:X.mg x=some u)(r:RelV v u)(hd:∀F,Den X.K F d v)(ig:(x==("__debug__":Str))=false:=by decide):PD X Xw (.Name x pos) (dC d):=
 eU (yg hg hm r ig) hd
end
theorem obj_some{P:Program}{w:World}{H:Hp}{h:Heap}{a:Addr}{o:HO}(x:ObjOk P w H h a o):∃ob,h.get? a=some ob:=by
 cases o with
 |lst xs=>obtain⟨_,_,_,_,e⟩:=x;exact⟨_,e⟩
 |tup xs=>obtain⟨_,_,_,ob,e,_⟩:=x;exact⟨_,e⟩
 |dK aJ=>obtain⟨_,_,_,_,o,_,_,e,_⟩:=x;exact⟨_,e⟩
 |dT aJ=>obtain⟨_,_,_,_,o,_,_,e,_⟩:=x;exact⟨_,e⟩
 |set S n=>obtain⟨o,_,_,_,e,_⟩:=x;exact⟨_,e⟩
 |ins C dx fs=>obtain⟨_,_,_,e,_⟩:=x;exact⟨_,e⟩
 |own y=>obtain⟨_,e⟩:=x;exact⟨_,e⟩
 |xd fs=>obtain⟨_,⟨_,_,_,e,_⟩,_⟩:=x;exact⟨_,e⟩
 |rng lo hi=>obtain⟨_,_,_,e⟩:=x;exact⟨_,e⟩
 |frz ob u=>obtain⟨e,_⟩:=x;exact⟨_,e⟩
 |tbl ps=>exact⟨_,(show h.get? a=some _ from x)⟩
 |met f y=>exact⟨_,(show h.get? a=some _ from x)⟩
 |ext φ=>obtain⟨_,⟨_,e⟩,_⟩:=x;exact⟨_,e⟩
def b6(P:Program)(w:World)(cv:Nat→Value):qw:=fun outer H s E e s'=>∃(ea:Addr) (n:Nat) (a0:Value) (B:Heap) (H':Hp),e= .ref ea∧s'.os=s.os∧AllBare s'.gens∧HOk P w H' s'.heap∧Un (eB outer) [] H H' s.heap s'.heap∧
 Heap.FlyingW B outer ea (cv n) a0 s'.heap∧(∀b o,s'.heap.get? b=some o→(H' b≠none∨(s.heap.get? b).isSome=true)→b∉eB outer→B.get? b=some o)∧E (cv n) none H'
section
variable{P:Program}{w:World}{fs:List Addr}{H₀ H:Hp}{h₀ h h':Heap}
theorem oI(u:Un fs [] H₀ H h₀ h)(ka:∀b o,h.get? b=some o→b∉fs→(H b≠none∨(h₀.get? b).isSome=true)→h'.get? b=some o)(kb:∀b o,h.get? b=some o→b∈fs→∃sl,h'.get? b=some {o with slots:=sl}):Un fs [] H₀ H h₀ h' where
 keep:=fun b o e n hb hx=>ka b o (u.keep b o e n hb hx) hb (.inr (by rw[e];rfl))
 slot:=fun b o e n hb hx=>by
  obtain⟨sl,q⟩:=u.slot b o e n hb hx
  obtain⟨yw,q'⟩:=kb b _ q hb
  exact⟨yw,q'⟩
 free:=u.free
 there:=fun b o e hx=>by
  obtain⟨o',q⟩:=u.there b o e hx
  by_cases hb:b∈fs
  ·obtain⟨sl,q'⟩:=kb b _ q hb
   exact⟨_,q'⟩
  ·exact⟨o',ka b o' q hb (.inr (by rw[e];rfl))⟩
 tups:=u.tups
 frzs:=u.frzs
 tbls:=u.tbls
theorem kJ(x:HOk P w H h)(hf:∀b∈fs,H b=none)(ka:∀b o,h.get? b=some o→b∉fs→H b≠none→h'.get? b=some o):HOk P w H h':=fun a o e=>by
 refine(x a o e).stay (fun b u hb q=>ka b u q (fun z=>?_) ?_) (fun _ q=>q) fun _ _ q=>q
 ·have hz:=hf b z
  rcases hb with rfl | hb
  ·rw[hz] at e;cases e
  ·rw[hz] at hb;cases hb
 ·rcases hb with rfl | hb
  ·rw[e];exact fun z=>nomatch z
  ·rw[hb];exact fun z=>nomatch z
end
section
variable{P:Program}{w:World}{K:W.Frag}{mg:Str→Option Value}{base:Heap}{N:List Str}{qual:Str}{scope:Scope}{f:Addr}{cd:Value}{A:Around}{outer:List Env}{s₀:Shared}{H₀:Hp}{E:XK}{cv:Nat→Value}
theorem aX:Passes (b6 P w cv) (aL (b6 P w cv) P w K mg base N qual scope f cd A outer s₀ H₀ E) (EX cv fun n H'=>E (cv n) none H'):=by
 intro pins σ H s e s' I ⟨ea,n,a0,B,H',he,tM,hg,hok,un,tI,hB,m,hm,hE⟩
 subst he
 have qO:((aL (b6 P w cv) P w K mg base N qual scope f cd A outer s₀ H₀ E)).env.locals=s₀.heap.objs.size:=rfl
 have nG:eB ((aL (b6 P w cv) P w K mg base N qual scope f cd A outer s₀ H₀ E)).stack=s₀.heap.objs.size::eB outer:=rfl
 show wpAny (model P w) (A.deeper (envOfC qual scope s₀.heap.objs.size f cd)) (leaving (envOfC qual scope s₀.heap.objs.size f cd) (.ref ea)) _ _ s'
 refine wpAny_leaves_onW (base:=B) (outer:=outer) (L:=s₀.heap.objs.size) I.ok.frames rfl tI fun h' zk ups=>?_
 have uH:∀b∈eB ((aL (b6 P w cv) P w K mg base N qual scope f cd A outer s₀ H₀ E)).stack,H' b=none:=fun b hb=>by
  obtain⟨o,ho⟩:∃o,s.heap.get? b=some o:=by
   obtain⟨_,o,ho,_⟩:=I.stack.mem hb
   exact⟨o,ho⟩
  exact un.free b o ho (I.stkFree b hb) (by simp)
 have il:∀b o,s'.heap.get? b=some o→b∉eB ((aL (b6 P w cv) P w K mg base N qual scope f cd A outer s₀ H₀ E)).stack→(H' b≠none∨(s.heap.get? b).isSome=true)→h'.get? b=some o:=fun b o e hb hc=>zk.1 b o (hB b o e hc hb)
 have unA:Un (eB outer) [] H₀ H' s₀.heap s'.heap:=by
  have u1:Un (eB outer) [] H₀ H s₀.heap s.heap:=I.base
  refine⟨fun b o e nn hb hx=>?_,fun b o e nn hb hx=>?_,fun b o e nn hx=>?_,fun b o e hx=>?_,fun b xs q=>un.tups b xs (u1.tups b xs q),fun b o u q=>un.frzs b o u (u1.frzs b o u q),fun b ps q=>?_⟩
  ·refine un.keep b o (u1.keep b o e nn hb hx) (u1.free b o e nn hx) (fun z=>?_) (by simp)
   rw[nG] at z
   rcases List.mem_cons.mp z with z | z
   ·exact absurd (Heap.lt_size e) (by rw[z];exact Nat.lt_irrefl _)
   ·exact hb z
  ·obtain⟨sl,q⟩:=u1.slot b o e nn hb hx
   obtain⟨yw,q'⟩:=un.slot b _ q (u1.free b o e nn hx) (by rw[nG];exact List.mem_cons_of_mem _ hb) (by simp)
   exact⟨yw,q'⟩
  ·obtain⟨o',q⟩:=u1.there b o e hx
   exact un.free b o' q (u1.free b o e nn hx) (by simp)
  ·obtain⟨o',q⟩:=u1.there b o e hx
   exact un.there b o' q (by simp)
  ·obtain⟨m1,q1⟩:=u1.tbls b ps q
   obtain⟨m2,q2⟩:=un.tbls b _ q1
   exact⟨m1++m2,by rw[q2,Array.append_assoc]⟩
 have Fh:∀b,(s₀.heap.get? b).isSome=true→(s.heap.get? b).isSome=true:=fun b hb=>by
  obtain⟨o,ho⟩:=Option.isSome_iff_exists.mp hb
  obtain⟨o',q⟩:=(show Un (eB outer) [] H₀ H s₀.heap s.heap from I.base).there b o ho (by simp)
  rw[q];rfl
 have t6:∀b,(s₀.heap.get? b).isSome=true→b≠s₀.heap.objs.size:=fun b hb z=>by
  obtain⟨o,ho⟩:=Option.isSome_iff_exists.mp hb
  exact absurd (Heap.lt_size ho) (by rw[z];exact Nat.lt_irrefl _)
 have vG:∀b,b∉eB outer→(H' b≠none∨(s₀.heap.get? b).isSome=true)→b∉eB ((aL (b6 P w cv) P w K mg base N qual scope f cd A outer s₀ H₀ E)).stack:=fun b hb hc z=>by
  rcases hc with hc | hc
  ·exact hc (uH b z)
  ·rw[nG] at z
   rcases List.mem_cons.mp z with z | z
   ·exact t6 b hc z
   ·exact hb z
 refine⟨ea,n,a0,B,H',rfl,tM.trans I.os,hg,kJ hok uH (fun b o e hb hc=>il b o e hb (.inl hc)),oI unA (fun b o e hb hc=>il b o e (vG b hb hc) (hc.imp id (Fh b))) (fun b o e hb=>?_),zk,fun b o e hc hb=>?_,?_⟩
 ·obtain⟨_,o',ij,hd⟩:=tI.2.2.1.mem (show b∈eB ((aL (b6 P w cv) P w K mg base N qual scope f cd A outer s₀ H₀ E)).stack by rw[nG];exact List.mem_cons_of_mem _ hb)
  rw[e] at ij
  cases ij
  exact ups b o e hd
 ·have CD:=vG b hb hc
  obtain⟨o',ij⟩:∃o',s'.heap.get? b=some o':=by
   rcases hc with hc | hc
   ·cases q:H' b with
    |none=>exact absurd q hc
    |some u=>
     exact obj_some (hok b u q)
   ·obtain⟨o1,h1⟩:=Option.isSome_iff_exists.mp hc
    exact unA.there b o1 h1 (by simp)
  have:=hB b o' ij (hc.imp id (Fh b)) CD
  rw[zk.1 b o' this] at e
  cases e
  exact this
 ·rw[hm];exact hE
def yE(X:Cx)(cv:Nat→Value)(Xw:Nat→Hp→Prop):Prop:=∀(n:Nat) (pins:List (Addr×Obj)) (σ:St) (H:Hp) (s:Shared) (h':Heap) (ea:Addr) (args:List Value),Inv X pins σ H s→Heap.MadeExcOf s.heap h' ea (cv n) args→Xw n H→X.xe (.ref ea) {s with heap:=h'}
theorem sC:yE (aL (b6 P w cv) P w K mg base N qual scope f cd A outer s₀ H₀ E) cv (fun n H'=>E (cv n) none H'):=by
 intro n pins σ H s hh ea args I hx hE
 have nG:eB ((aL (b6 P w cv) P w K mg base N qual scope f cd A outer s₀ H₀ E)).stack=s₀.heap.objs.size::eB outer:=rfl
 have BC:∀env∈((aL (b6 P w cv) P w K mg base N qual scope f cd A outer s₀ H₀ E)).stack,∀b,env.frame=some b→b∈eB ((aL (b6 P w cv) P w K mg base N qual scope f cd A outer s₀ H₀ E)).stack:=fun env he b hb=>List.mem_filterMap.mpr ⟨env,he,hb⟩
 have stays:(PySem.W.hideAll s.heap (eB ((aL (b6 P w cv) P w K mg base N qual scope f cd A outer s₀ H₀ E)).stack)).StaysIn s.heap:=fun b o q=>PySem.W.of_hideAll _ q
 show wpAny (model P w) (A.deeper (envOfC qual scope s₀.heap.objs.size f cd)) (leaving (envOfC qual scope s₀.heap.objs.size f cd) (.ref ea)) _ _ _
 refine wpAny_leaves_madeW (base:=PySem.W.hideAll s.heap (eB ((aL (b6 P w cv) P w K mg base N qual scope f cd A outer s₀ H₀ E)).stack)) (h:=s.heap) (outer:=outer) (L:=s₀.heap.objs.size) I.ok.frames rfl stays (PySem.W.funFrames_hide I.stack BC) hx fun h' t tI _ _ ups=>?_
 have hB:∀b o,s.heap.get? b=some o→b∉eB ((aL (b6 P w cv) P w K mg base N qual scope f cd A outer s₀ H₀ E)).stack→(PySem.W.hideAll s.heap (eB ((aL (b6 P w cv) P w K mg base N qual scope f cd A outer s₀ H₀ E)).stack)).get? b=some o:=fun b o e hb=>PySem.W.hideAll_get _ e hb
 have il:∀b o,s.heap.get? b=some o→b∉eB ((aL (b6 P w cv) P w K mg base N qual scope f cd A outer s₀ H₀ E)).stack→h'.get? b=some o:=fun b o e hb=>tI.1 b o (hB b o e hb)
 have u1:Un (eB outer) [] H₀ H s₀.heap s.heap:=I.base
 have t6:∀b,(s₀.heap.get? b).isSome=true→b≠s₀.heap.objs.size:=fun b hb z=>by
  obtain⟨o,ho⟩:=Option.isSome_iff_exists.mp hb
  exact absurd (Heap.lt_size ho) (by rw[z];exact Nat.lt_irrefl _)
 have vG:∀b,b∉eB outer→(H b≠none∨(s₀.heap.get? b).isSome=true)→b∉eB ((aL (b6 P w cv) P w K mg base N qual scope f cd A outer s₀ H₀ E)).stack:=fun b hb hc z=>by
  rcases hc with hc | hc
  ·exact hc (I.stkFree b z)
  ·rw[nG] at z
   rcases List.mem_cons.mp z with z | z
   ·exact t6 b hc z
   ·exact hb z
 refine⟨ea,n, .ref t,PySem.W.hideAll s.heap (eB ((aL (b6 P w cv) P w K mg base N qual scope f cd A outer s₀ H₀ E)).stack),H,rfl,I.os,I.bare,kJ I.hok I.stkFree (fun b o e hb hc=>il b o e hb),oI u1 (fun b o e hb hc=>il b o e (vG b hb hc)) (fun b o e hb=>?_),tI,fun b o e hc hb=>?_,hE⟩
 ·obtain⟨_,o',ij,hd⟩:=I.stack.mem (show b∈eB ((aL (b6 P w cv) P w K mg base N qual scope f cd A outer s₀ H₀ E)).stack by rw[nG];exact List.mem_cons_of_mem _ hb)
  rw[e] at ij
  cases ij
  exact ups b o (hx.keeps b o e) hd
 ·obtain⟨o',ij⟩:∃o',s.heap.get? b=some o':=by
   rcases hc with hc | hc
   ·cases q:H b with
    |none=>exact absurd q hc
    |some u=>exact obj_some (I.hok b u q)
   ·obtain⟨o1,h1⟩:=Option.isSome_iff_exists.mp hc
    exact u1.there b o1 h1 (by simp)
  have CD:=vG b hb hc
  rw[il b o' ij CD] at e
  cases e
  exact hB b o ij CD
end
section
variable{X:Cx}{Xw:Nat→Hp→Prop}{cv:Nat→Value}{n:Nat}{C:Addr}{x:Str}{np aM pos:Pos}{e:Expr}{es:List Expr}{δs:DA}{bm:List Value}{B newId zL:String}
theorem gA(O:OwnCls x C bm newId X.mg X.base)(FB:ExcBaseFacts B newId zL bm)(hg:Gl X x)(hc:X.calm=true)(Bv:cv n= .ref C)(hx:yE X cv Xw)(ha:j0 X Xw (e::es) δs)(ig:(x==("__debug__":Str))=false:=by decide)
 (he:starEach (e::es) X.env=(false,eval e X.env)::starEach es X.env:=by rfl)(ke:(backTo aM (starEach es X.env)).any (·.1)=false:=by rfl):
 fx X Xw (.Raise (some (.Call (.Name x np) (e::es) [] aM)) none pos) (fun ρ=>δs ρ>>=fun ds=>if ds.length≤lim then M.raise n else M.stuck):=fun F₀ H₀ pins s σ H D I ⟨F,ρ,S,w⟩=>by
 obtain⟨tl,Nn,nm,q,bs,hdct,sn,sub,ab,col,dd,k0,k1,k2,k3,k5,mN,hC,hN,Gw,T⟩:=O.obj
 refine wpAny_Raise_call_subT (C:=C) (nm:=nm) (q:=q) (N:=Nn) (bs:=bs) (bm:=tl) (hdct:=hdct) (sn:=sn) (sub:=sub) (ab:=ab) (col:=col) (dd:=dd) (k0:=k0) (k1:=k1) (k2:=k2) (k3:=k3) (k5:=k5)
  FB (mN:=mN) (T.hasType FB.hasBase) (I.ok.hd hc) (by rw[he];show (false||(backTo aM (starEach es X.env)).any (·.1))=false;rw[ke];rfl) Gw (iq I hg O.bound ⟨rfl,?_⟩ ig)
 have w:WPS X.K Xw F₀ H₀ (δs ρ>>=fun ds=>if ds.length≤lim then M.raise n else M.stuck) D:=w
 have hA:=ha aM pins s σ H (fun vs H1=>vs.length≤lim∧Xw n H1) I ⟨F,ρ,S.st,by
  rcases(δs ρ).cs with q | ⟨m,q⟩ | ⟨ds,q⟩
  ·rw[q] at w;exact w.elim
  ·rw[q] at w⊢;exact fun F' H' e'=>w F' H' (S.ext.trans e')
  ·rw[q] at w⊢
   intro vs H' F' e' hd
   have w:WPS X.K Xw F₀ H₀ (if ds.length≤lim then M.raise n else M.stuck) D:=w
   split at w
   ·rename_i hl
    exact⟨by rw[←hd.len];exact hl,w F' H' (S.ext.trans e')⟩
   ·exact w.elim⟩
 rw[he] at hA⊢
 refine Calls.evalArgs_plain (bV hA fun us s₂ ⟨vs,H1,I1,r,hl,hX⟩=>⟨rfl,by rw[←r.length];have:=cJ;omega,I1.bk _ _ hC,hN.keeps I1.bk,T.keeps I1.bk,fun h' ea hm=>hx n pins σ H1 s₂ h' ea us I1 (by rw[Bv];exact hm) hX⟩)
end
def yU:D→Option String
 | .non=>some "NoneType"
 | .bl _=>some "bool"
 | .int _=>some "int"
 | .str _=>some "str"
 | .tup _=>some "tuple"
 | .lst _=>some "list"
 |_=>none
def zN(k T:String):Option Bool:=if T="str"∨T="int"∨T="bool"∨T="tuple"∨T="list" then some (decide (k=T)||(decide (k="bool")&&decide (T="int"))) else none
def fB:List D→M D
 |[d, .raw (.ty T)]=>match yU d with
  |some k=>match zN k T with
   |some b=>M.ret (.bl b)
   |none=>M.stuck
  |none=>M.stuck
 |_=>M.stuck
theorem zV{K:W.Frag}{k T:String}{b:Bool}(hk:k="NoneType"∨k="bool"∨k="int"∨k="str"∨k="tuple"∨k="list")(h:zN k T=some b):PySem.W.kitOne K (.type k) (.type T)=some b:=by
 unfold zN at h
 split at h
 ·rename_i hT
  cases h
  rcases hk with rfl | rfl | rfl | rfl | rfl | rfl<;>rcases hT with rfl | rfl | rfl | rfl | rfl<;>with_unfolding_all rfl
 ·cases h
section
variable{X:Cx}{Xw:Nat→Hp→Prop}{a b e e2:Expr}{es:List Expr}{δa δb:DE}{δs:DA}{pos p:Pos}
def B8(K:W.Frag):List V→Hp→VK→Prop:=fun xs H Q=>∃x T t b,xs=[x, .ty T]∧TyOf K H x t∧PySem.W.kitOne K t (.type T)=some b∧Q (.bl b) H
theorem uQ:CallR X (.builtin "isinstance") (B8 X.K):=by
 intro pins s σ H xs us Q I r h
 obtain⟨x,T,t,b,rfl,ty,e,q⟩:=h
 obtain⟨u,w',rfl,r1,r2⟩:=vals2 r
 cases (show w'=_ from r2)
 exact tQ I r1 ty e fun tk=>⟨.bl b,H,I.tok tk,rfl,q⟩
theorem wX{K:W.Frag}{F H:Hp}{d:D}{v:V}{k:String}(s:Same F H)(h:Den K F d v)(hk:yU d=some k):TyOf K H v (.type k)∧(k="NoneType"∨k="bool"∨k="int"∨k="str"∨k="tuple"∨k="list"):=by
 cases d with
 |non=>cases hk;cases (show _=_ from h);exact⟨.non, .inl rfl⟩
 |bl x=>cases hk;cases (show _=_ from h);exact⟨.bl x, .inr (.inl rfl)⟩
 |int x=>cases hk;cases (show _=_ from h);exact⟨.int x, .inr (.inr (.inl rfl))⟩
 |str x=>cases hk;cases (show _=_ from h.1);exact⟨.str x, .inr (.inr (.inr (.inl rfl)))⟩
 |tup x=>cases hk;obtain⟨a,vs,rfl,h2,_⟩:=h;exact⟨.tup (s _ _ h2), .inr (.inr (.inr (.inr (.inl rfl))))⟩
 |lst x=>cases hk;obtain⟨a,vs,rfl,h2,_⟩:=h;exact⟨.lst (s _ _ h2), .inr (.inr (.inr (.inr (.inr rfl))))⟩
 |_=>cases hk
theorem tP{K:W.Frag}:oQ K (B8 K) fB:=fun Xw F H vs ds Q s h w=>by
 unfold fB at w
 split at w
 ·rename_i d T
  obtain⟨v,v',rfl,h1,h2⟩:=h.two
  cases (show _=_ from h2)
  split at w
  ·rename_i k hk
   split at w
   ·rename_i b hb
    obtain⟨ty,yS⟩:=wX s h1 hk
    exact⟨v,T, .type k,b,rfl,ty,zV yS hb,WP.now w s rfl⟩
   ·exact w.elim
  ·exact w.elim
 ·exact w.elim
theorem jb(hg:Gl X "isinstance")(hm:X.mg "isinstance"=none)(hb:bootBuiltins "isinstance"=some (.builtin "isinstance"))(ha:j0 X Xw [e,e2] δs)(he:starEach [e,e2] X.env=(false,eval e X.env)::starEach [e2] X.env:=by rfl)
 (ke:(backTo pos (starEach [e2] X.env)).any (·.1)=false:=by rfl):PD X Xw (.Call (.Name "isinstance" p) [e,e2] [] pos) (dA fB δs):=
 f9 uQ tP hg hm hb ha (by decide) (by decide) he ke
theorem lq{x:Str}{T:String}(hg:Gl X x)(hm:X.mg x=none)(hv:bootBuiltins x=some (.type T))(hn:x≠"__name__":=by decide)(hd:(x==("__debug__":Str))=false:=by decide):PD X Xw (.Name x pos) (dC (.raw (.ty T))):=
 eU (v:= .ty T) (yd hg hm hv (show RelV (.ty T) (.type T) from rfl) hn hd) fun _=>rfl
def bools:List D→Option (List Bool)
 |[]=>some []
 | .bl b::r=>(bools r).map (b:: ·)
 |_=>none
def allM:List D→M D
 |[.lst ds]=>match bools ds with
  |some bs=>M.ret (.bl (bs.all id))
  |none=>M.stuck
 |_=>M.stuck
theorem gn{K:W.Frag}{F:Hp}:∀{ds:List D}{vs:List V}{bs:List Bool},bools ds=some bs→DenL K F ds vs→vs=bs.map V.bl
 |[],_,_,e,h=>by cases e;exact h
 | .bl b::r,_,_,e,⟨v,r',h1,h2,h3⟩=>by
   unfold bools at e
   cases q:bools r with
   |none=>rw[q] at e;cases e
   |some bs=>rw[q] at e;cases e;subst h1;rw[gn q h3,show v= .bl b from h2];rfl
 | .non::_,_,_,e,_=>by cases e
 | .int _::_,_,_,e,_=>by cases e
 | .str _::_,_,_,e,_=>by cases e
 | .raw _::_,_,_,e,_=>by cases e
 | .exc _::_,_,_,e,_=>by cases e
 | .scr _::_,_,_,e,_=>by cases e
 | .tup _::_,_,_,e,_=>by cases e
 | .lst _::_,_,_,e,_=>by cases e
theorem kl:∀{bs:List Bool}{aG:List Value},Vals (bs.map V.bl) aG→aG=bs.map Value.bool
 |[],_,r=>by cases r;rfl
 |b::bs,_,r=>by
  cases r with
  |cons r1 r2=>cases (show _=_ from r1);rw[kl r2];rfl
def Eh:List V→Hp→VK→Prop:=fun xs H Q=>∃(a:Addr) (bs:List Bool),xs=[.ref a]∧H a=some (.lst (bs.map V.bl))∧Q (.bl (bs.all id)) H
theorem all_range{bs:List Bool}:(List.range bs.length).all (fun i=>bs.getD i false)=bs.all id:=by
 induction bs with
 |nil=>rfl
 |cons b bs ih=>
  rw[List.length_cons,List.range_succ_eq_map,List.all_cons,List.all_map,List.all_cons]
  congr 1
theorem tu(hc:X.calm=true):CallR X (.builtin "all") Eh:=by
 intro pins s σ H xs us Q I r h
 obtain⟨a,bs,rfl,hH,q⟩:=h
 obtain⟨u,rfl,r1⟩:=vals1 r
 cases (show u=_ from r1)
 obtain⟨aG,r2,pl,hz⟩:=I.list (SqL.of (K:=X.K) hH)
 obtain rfl:=kl r2
 have qt:a≠s.heap.objs.size:=Nat.ne_of_lt (I.hok.lt hH)
 refine call_all_walk (wpAny_pyIter_list pl.isList ?_)
 refine⟨s.heap.objs.size,_,_,_,_,_,fun i=>bs.getD i false,rfl,Walks.list (A:=X.A.in1) (show X.A.in1.handled=none from I.ok.hd hc) s.heap.objs.size a qt (bs.map Value.bool).toArray,⟨⟨_,Heap.get?_push_size _ rfl,rfl,rfl⟩,Heap.IsList.at pl.isList fun o e=>Heap.get?_push_of_some _ e⟩,?_,fun h' tk k=>?_⟩
 ·intro i v s' Q' E' hv hq
  have hv:(bs.map Value.bool).toArray[i]? =some v:=hv
  rw[List.getElem?_toArray,List.getElem?_map] at hv
  cases q':bs[i]? with
  |none=>rw[q'] at hv;cases hv
  |some b=>
   rw[q'] at hv
   cases hv
   have:bs.getD i false=b:=by rw[List.getD_eq_getElem?_getD,q'];rfl
   have hq:Q' (bs.getD i false) s':=hq
   rw[this] at hq
   exact wpAny_truthy_bool hq
 ·have e:(List.range (bs.map Value.bool).toArray.size).all (fun i=>bs.getD i false)=bs.all id:=by
   rw[List.size_toArray,List.length_map];exact all_range
  rw[e]
  refine⟨.bl (bs.all id),H,I.kept (h':=h') (t':=tk) fun b o e'=>k b o (fun z=>?_) (Heap.get?_push_of_some _ e'),rfl,q⟩
  have z:b=s.heap.objs.size:=by simpa using z
  exact absurd (Heap.lt_size e') (by rw[z];exact Nat.lt_irrefl _)
theorem rA(hc:X.calm=true)(hg:Gl X "all")(hm:X.mg "all"=none)(hb:bootBuiltins "all"=some (.builtin "all"))(ha:j0 X Xw [e] δs)(he:starEach [e] X.env=[(false,eval e X.env)]:=by rfl):PD X Xw (.Call (.Name "all" p) [e] [] pos) (dA allM δs):=
 f9 (tu hc) (fun Xw F H vs ds Q s h w=>by
  unfold allM at w
  split at w
  ·rename_i ds
   obtain⟨v,rfl,h1⟩:=h.one
   obtain⟨a,ws,rfl,h2,h3,_⟩:=h1
   split at w
   ·rename_i bs hb
    exact⟨a,bs,rfl,by rw[←gn hb h3];exact s _ _ h2,WP.now w s rfl⟩
   ·exact w.elim
  ·exact w.elim) hg hm hb ha (by decide) (by decide) he rfl
end
section
variable{X:Cx}{Xw:Nat→Hp→Prop}{a b e e2:Expr}{es:List Expr}{δ δa δb:DE}{δs:DA}{pos p apos aM:Pos}
theorem yz{i:Nat}:∀F₀ H₀ D σ H,tS X.K Xw F₀ H₀ (oj i δ) D σ H→wQ (Eu X.K "list" sP (md i) (wO (tD X.K Xw δ) AJ)) D σ H:=fun F₀ H₀ D σ H ⟨F,ρ,s,w⟩=>by
 unfold oj at w
 cases ho:ug ρ i with
 |none=>rw[ho] at w;exact w.elim
 |some ds=>
  rw[ho] at w
  have hi:=mO ho
  obtain⟨v,hv,a,o,rfl,hH,hF,vs,rfl,hd,hl⟩:=s.st.den i _ hi
  have w:WPS X.K Xw F₀ H₀ (δ ρ>>=fun d=>if ds.length<lim then M.ret (.nx (ρ.set i (some (.ow (.lst (ds++[d])))))) else M.stuck) D:=w
  refine⟨.ref a,hv, .inl ⟨rfl,vs,SqL.of hH⟩,F,ρ,s.st,?_⟩
  rcases(δ ρ).cs with q | ⟨n,q⟩ | ⟨d,q⟩
  ·rw[q] at w;exact w.elim
  ·rw[q] at w⊢;exact fun F' H' e'=>w F' H' (s.ext.trans e')
  ·rw[q] at w⊢
   intro u H1 F1 e1 hq
   have w:WPS X.K Xw F₀ H₀ (if ds.length<lim then M.ret (.nx (ρ.set i (some (.ow (.lst (ds++[d])))))) else M.stuck) D:=w
   split at w
   ·rename_i j2
    have hlen:=hd.len
    refine⟨a,vs,u,rfl,rfl,e1.hh _ _ hH,by have:=cJ;omega,?_⟩
    exact w σ F1 _ ((s.ext' e1).chg (c₀:= .lst (ds++[d])) hi hv ⟨_,rfl,DenL.append (DenL.mono e1.ff hd) (.cons hq .nil),by rw[List.length_append];exact j2⟩)
   ·exact w.elim
theorem yA{i:Nat}:∀F₀ H₀ D σ H,tS X.K Xw F₀ H₀ (wC i δ) D σ H→wQ (Eu X.K "list" sQ (md i) (wO (tD X.K Xw δ) AJ)) D σ H:=fun F₀ H₀ D σ H ⟨F,ρ,s,w⟩=>by
 unfold wC at w
 cases ho:ug ρ i with
 |none=>rw[ho] at w;exact w.elim
 |some ds=>
  rw[ho] at w
  have hi:=mO ho
  obtain⟨v,hv,a,o,rfl,hH,hF,vs,rfl,hd,hl⟩:=s.st.den i _ hi
  have w:WPS X.K Xw F₀ H₀ (δ ρ>>=fun d=>lstM d>>=fun es=>if ds.length+es.length≤lim then M.ret (.nx (ρ.set i (some (.ow (.lst (ds++es)))))) else M.stuck) D:=w
  refine⟨.ref a,hv, .inl ⟨rfl,vs,SqL.of hH⟩,F,ρ,s.st,?_⟩
  rcases(δ ρ).cs with q | ⟨n,q⟩ | ⟨d,q⟩
  ·rw[q] at w;exact w.elim
  ·rw[q] at w⊢;exact fun F' H' e'=>w F' H' (s.ext.trans e')
  ·rw[q] at w⊢
   intro u H1 F1 e1 hq
   cases d with
   |lst es=>
    obtain⟨b,ws,rfl,k2,k3,k4⟩:=hq
    have w:WPS X.K Xw F₀ H₀ (if ds.length+es.length≤lim then M.ret (.nx (ρ.set i (some (.ow (.lst (ds++es)))))) else M.stuck) D:=w
    split at w
    ·rename_i j2
     have hlen:=hd.len
     have E9:=k3.len
     refine⟨a,b,vs,ws,rfl,rfl,e1.hh _ _ hH,e1.fh _ _ k2,by have:=cJ;omega,?_⟩
     exact w σ F1 _ ((s.ext' e1).chg (c₀:= .lst (ds++es)) hi hv ⟨_,rfl,DenL.append (DenL.mono e1.ff hd) k3,by rw[List.length_append];exact j2⟩)
    ·exact w.elim
   |_=>exact w.elim
theorem n_{i:Nat}{x:Str}(hv:PE X (.Name x p) (md i))(he:PD X Xw e δ)(hs:swapsWith (.Call (.Attribute (.Name x p) "append" apos) [e] [] aM) none pos.line X.env=pure false:=by rfl)
 (dZ:attributeBase (.Name x p) "append" X.env (eval (.Name x p) X.env)=eval (.Name x p) X.env:=by rfl)
 (gW:((backTo aM (starEach [e] X.env)).all (fun x=>!x.1)&&(backToKw aM (keywordEach [] X.env)).all (fun x=>x.1.isSome)&&decide ([e].length+([]:List Keyword).length+(if ([]:List Keyword).isEmpty then 0 else 1)<30))=true:=by rfl)
 (d4:(apos.endLine==aM.line)=true:=by rfl)(qQ:starEach [e] X.env=[(false,eval e X.env)]:=by rfl):fx X Xw (.Expr (.Call (.Attribute (.Name x p) "append" apos) [e] [] aM) pos) (oj i δ):=fun F₀ H₀=>
 PS.weak (n9 (vV PySem.F.plainAttrs_list PySem.F.slot_list_append PySem.F.type_list_append mH hv (nV he nW qQ) dZ gW d4 qQ rfl) hs) fun D σ H w=>yz F₀ H₀ D σ H w
theorem yl{i:Nat}{x:Str}(hv:PE X (.Name x p) (md i))(he:PD X Xw e δ)(hs:swapsWith (.Call (.Attribute (.Name x p) "extend" apos) [e] [] aM) none pos.line X.env=pure false:=by rfl)
 (dZ:attributeBase (.Name x p) "extend" X.env (eval (.Name x p) X.env)=eval (.Name x p) X.env:=by rfl)
 (gW:((backTo aM (starEach [e] X.env)).all (fun x=>!x.1)&&(backToKw aM (keywordEach [] X.env)).all (fun x=>x.1.isSome)&&decide ([e].length+([]:List Keyword).length+(if ([]:List Keyword).isEmpty then 0 else 1)<30))=true:=by rfl)
 (d4:(apos.endLine==aM.line)=true:=by rfl)(qQ:starEach [e] X.env=[(false,eval e X.env)]:=by rfl):fx X Xw (.Expr (.Call (.Attribute (.Name x p) "extend" apos) [e] [] aM) pos) (wC i δ):=fun F₀ H₀=>
 PS.weak (n9 (vV PySem.F.plainAttrs_list PySem.F.slot_list_extend PySem.F.type_list_extend t5 hv (nV he nW qQ) dZ gW d4 qQ rfl) hs) fun D σ H w=>yA F₀ H₀ D σ H w
theorem vK:OpR X (binaryOp .Add) (fun x y H Q=>∃a b ys,x= .ref a∧y= .ref b∧SqT X.K H a []∧SqT X.K H b ys∧Q (.ref b) H):=by
 intro pins s σ H x y v u Q I rx ry h
 obtain⟨a,b,ys,rfl,rfl,ha,hb,q⟩:=h
 cases rx
 cases ry
 obtain⟨aG,r1,p1,_⟩:=I.tuple ha
 obtain⟨d6,r2,p2,_⟩:=I.tuple hb
 cases r1
 obtain⟨⟨cls,dd,data,sl⟩,ho,hc,n,hd⟩:=id p1
 obtain⟨⟨cls2,AO,data2,CQ⟩,zF,zx,n2,hd2⟩:=id p2
 simp only at hc hd zx hd2
 subst hc hd zx hd2
 exact concat_meets ⟨_,ho,rfl⟩ ⟨_,zF,rfl⟩ noFill_tuple_add seq_tuple_add PySem.F.slot_tuple_add PySem.F.entry_tuple_add (PySem.F.args_tuple_add_2 _ _)
  (tuple_addW0 a b _ _ n n2 dd AO sl CQ (by simp)) ⟨ho,zF,⟨.ref b,H,I,rfl,q⟩⟩
def pd:D→D→M D
 | .tup x, .tup y=>if x.length+y.length≤lim then M.ret (.tup (x++y)) else M.stuck
 |_,_=>M.stuck
theorem x_(ha:PD X Xw a δa)(hb:PD X Xw b δb):PD X Xw (.BinOp a .Add b pos) (d2 pd δa δb):=gM (vK.or xP) (fun Xw F H x y dx dy Q s hx hy w=>by
 unfold pd at w
 split at w
 ·rename_i i j
  obtain⟨a,vs,h1,h2,h3,h4⟩:=hx
  obtain⟨a',wY,k1,k2,k3,k4⟩:=hy
  split at w
  ·rename_i hl
   have e1:=h3.len
   have e2:=k3.len
   have:=cJ
   by_cases hv:vs=[]
   ·subst hv
    have:i=[]:=by cases i with | nil=>rfl | cons _ _=>simp at e1
    subst this
    exact .inl ⟨a,a',wY,h1,k1,SqT.of (s _ _ h2),SqT.of (s _ _ k2),WP.now w s ⟨a',wY,k1▸rfl,k2,k3,k4⟩⟩
   ·refine .inr ⟨a,a',vs,wY,h1,k1,SqT.of (s _ _ h2),SqT.of (s _ _ k2),hv,by omega,fun z=>?_,fun z p hp=>?_⟩
    ·subst z
     have:j=[]:=by cases j with | nil=>rfl | cons _ _=>simp at e2
     subst this
     rw[List.append_nil] at w
     exact WP.now w s ⟨a,vs,rfl,h2,h3,h4⟩
    ·exact WP.fin w (Ext.lay s hp) ⟨p,_,rfl,aA,DenL.mono (Ext.lay s hp).ff (h3.append k3),by rw[List.length_append];exact hl⟩
  ·exact w.elim
 ·exact w.elim) ha hb
end
section
variable{X:Cx}{Xw:Nat→Hp→Prop}{a b e e2 o:Expr}{es:List Expr}{δ δa δb δo:DE}{δs:DA}{pos p apos aM:Pos}
def dM(kd:D→Bool)(g:D→List D→M D)(o:DE)(s:DA):DE:=fun ρ=>o ρ>>=fun d=>if kd d then s ρ>>=fun ds=>g d ds else M.stuck
theorem sF{T:String}{name:Str}{id:String}{r:V→List V→Hp→VK→Prop}{kd:D→Bool}{g:D→List D→M D}(pa:PlainAttrs T)(slot:Slot T name id)(DY:typeOf (.builtin id)=pure (.type "method_descriptor"))(hm:AN X id r)
 (hk:∀(F H:Hp) (x:V) (d:D),kd d=true→Same F H→Den X.K F d x→Cr X.K T x H)
 (hd:∀(Xw:Nat→Hp→Prop) (F H:Hp) (x:V) (vs:List V) (d:D) (ds:List D) (Q:VK),Same F H→Den X.K F d x→DenL X.K F ds vs→WP X.K Xw F H (g d ds) Q→r x vs H Q)
 (ho:PD X Xw o δo)(ha:j0 X Xw (e::es) δs)
 (dZ:attributeBase o name X.env (eval o X.env)=eval o X.env:=by rfl)
 (gW:((backTo aM (starEach (e::es) X.env)).all (fun x=>!x.1)&&(backToKw aM (keywordEach [] X.env)).all (fun x=>x.1.isSome)
  &&decide ((e::es).length+([]:List Keyword).length+(if ([]:List Keyword).isEmpty then 0 else 1)<30))=true:=by rfl)
 (d4:(apos.endLine==aM.line)=true:=by rfl) (hs:starEach (e::es) X.env=(false,eval e X.env)::starEach es X.env:=by rfl) (qP:(backTo aM (starEach es X.env)).any (·.1)=false:=by rfl):
 PD X Xw (.Call (.Attribute o name apos) (e::es) [] aM) (dM kd g δo δs):=PE.weak (vV pa slot DY hm ho ha dZ gW d4 hs qP) fun σ H Q ⟨F,ρ,s,w⟩=>by
 refine⟨F,ρ,s,WP.mono (WP.bind w) fun v H1 ⟨F1,d,e1,q1,w1⟩=>?_⟩
 split at w1
 ·rename_i Gq
  refine⟨hk F1 H1 v d Gq e1.fh q1,F1,ρ,s.ext e1,WPL.mono (WP.bindL w1) fun vs H2 ⟨F2,ds,e2,q2,w2⟩=>?_⟩
  exact hd Xw F2 H2 v vs d ds Q e2.fh (Den.mono e2.ff q1) q2 w2
 ·exact w1.elim
def kf:D→Bool
 | .str _=>true
 |_=>false
def jy:D→Bool
 | .lst _=>true
 |_=>false
theorem vn{K:W.Frag}(F H:Hp)(x:V)(d:D)(h:kf d=true)(s:Same F H)(q:Den K F d x):Cr K "str" x H:=by
 cases d with
 |str z=>cases (show _=_ from q.1);exact rfl
 |_=>cases h
theorem pq{K:W.Frag}(F H:Hp)(x:V)(d:D)(h:jy d=true)(s:Same F H)(q:Den K F d x):Cr K "list" x H:=by
 cases d with
 |lst z=>obtain⟨a,vs,rfl,h2,_⟩:=q;exact .inl ⟨rfl,vs,SqL.of (s _ _ h2)⟩
 |_=>cases h
def g_:List D→Option (List Str)
 |[]=>some []
 | .str x::r=>(g_ r).map (x:: ·)
 |_=>none
theorem lI{K:W.Frag}{F:Hp}:∀{ds:List D}{vs:List V}{xs:List Str},g_ ds=some xs→DenL K F ds vs→vs=xs.map V.str
 |[],_,_,e,h=>by cases e;exact h
 | .str b::r,_,_,e,⟨v,r',h1,h2,h3⟩=>by
   unfold g_ at e
   cases q:g_ r with
   |none=>rw[q] at e;cases e
   |some bs=>rw[q] at e;cases e;subst h1;rw[lI q h3,show v= .str b from h2.1];rfl
 | .non::_,_,_,e,_=>by cases e
 | .int _::_,_,_,e,_=>by cases e
 | .bl _::_,_,_,e,_=>by cases e
 | .raw _::_,_,_,e,_=>by cases e
 | .exc _::_,_,_,e,_=>by cases e
 | .scr _::_,_,_,e,_=>by cases e
 | .tup _::_,_,_,e,_=>by cases e
 | .lst _::_,_,_,e,_=>by cases e
theorem lK:∀{xs:List Str}{aG:List Value},Vals (xs.map V.str) aG→StrsAre aG xs
 |[],_,r=>by cases r;exact .nil
 |b::bs,_,r=>by
  cases r with
  |cons r1 r2=>obtain⟨t,rfl⟩:=r1;exact .cons b t (lK r2)
def cK:List Str→Str
 |[]=>⟨#[]⟩
 |x::r=>x++cK r
def joinM:D→List D→M D
 | .str sep,[.lst ds]=>match g_ ds with
   |some xs=>if sep.length=0∧(xs.map (·.length)).sum≤lim then M.ret (.str (cK xs)) else M.stuck
   |none=>M.stuck
 | .str sep,[.tup ds]=>match g_ ds with
   |some xs=>if sep.length=0∧(xs.map (·.length)).sum≤lim then M.ret (.str (cK xs)) else M.stuck
   |none=>M.stuck
 |_,_=>M.stuck
theorem ku:∀xs:List Str,(cK xs).length=(xs.map (·.length)).sum
 |[]=>rfl
 |x::r=>by
  show (x++cK r).length=_
  rw[eg,ku r,List.map_cons,List.sum_cons]
theorem sV{x:Str}(h:x.length=0):x=⟨#[]⟩:=by
 obtain⟨⟨l⟩⟩:=x
 have:l.length=0:=h
 cases l with
 |nil=>rfl
 |cons _ _=>simp at this
theorem jN(x:Str):x++(⟨#[]⟩:Str)=x:=by
 obtain⟨c⟩:=x
 show (⟨c++ #[]⟩:Str)=⟨c⟩
 simp
theorem jA(sep:Str)(h:sep.length=0):∀xs:List Str,Txt.join sep xs=cK xs:=by
 have e:=sV h
 subst e
 intro xs
 show Builtin.Str.glued _ xs=_
 rw[StrLaws.glued_eq_join]
 induction xs with
 |nil=>rfl
 |cons x r ih=>
  cases r with
  |nil=>show x=x++(⟨#[]⟩:Str);rw[jN]
  |cons y r=>show x++(⟨#[]⟩:Str)++Str.join _ (y::r)=x++cK (y::r);rw[jN,ih]
def rJoin(K:W.Frag):V→List V→Hp→VK→Prop:=fun x vs H Q=>∃(sep:Str) (a:Addr) (xs:List Str),x= .str sep∧vs=[.ref a]∧(H a=some (.lst (xs.map V.str))∨H a=some (.tup (xs.map V.str)))∧sep.length=0∧(xs.map (·.length)).sum≤lim∧Q (.str (cK xs)) H
theorem xN:AN X "str.join" (rJoin X.K):=by
 intro pins s σ H x vs v us Q I rx rv h
 obtain⟨sep,a,xs,rfl,rfl,hH,hs,hl,q⟩:=h
 obtain⟨t,rfl⟩:=rx
 obtain⟨u,rfl,r1⟩:=rv.one
 cases (show u=_ from r1)
 have hok:(xs.map (·.length)).sum+xs.length*sep.length≤16777216:=by
  rw[hs,Nat.mul_zero]
  unfold lim at hl
  omega
 rcases hH with hH | hH
 ·obtain⟨aG,r2,pl,hz⟩:=I.list (SqL.of (K:=X.K) hH)
  refine join_list pl.isList (by simpa using lK r2) hok fun t' k=>⟨.str (cK xs),H,I.tok k,⟨t',by rw[jA sep hs]⟩,q⟩
 ·obtain⟨aG,r2,pl,hz⟩:=I.tuple (SqT.of (K:=X.K) hH)
  refine join_tuple pl (by simpa using lK r2) hok fun t' k=>⟨.str (cK xs),H,I.tok k,⟨t',by rw[jA sep hs]⟩,q⟩
theorem iF(ho:PD X Xw o δo)(ha:j0 X Xw [e] δs)(dZ:attributeBase o "join" X.env (eval o X.env)=eval o X.env:=by rfl)
 (gW:((backTo aM (starEach [e] X.env)).all (fun x=>!x.1)&&(backToKw aM (keywordEach [] X.env)).all (fun x=>x.1.isSome)&&decide ([e].length+([]:List Keyword).length+(if ([]:List Keyword).isEmpty then 0 else 1)<30))=true:=by rfl)
 (d4:(apos.endLine==aM.line)=true:=by rfl)(qQ:starEach [e] X.env=[(false,eval e X.env)]:=by rfl):PD X Xw (.Call (.Attribute o "join" apos) [e] [] aM) (dM kf joinM δo δs):=
 sF PySem.F.plainAttrs_str PySem.F.slot_str_join PySem.F.type_str_join xN vn (fun Xw F H x vs d ds Q s hx hv w=>by
  unfold joinM at w
  split at w
  ·rename_i sep ds
   obtain⟨v,rfl,h1⟩:=hv.one
   obtain⟨a,ws,rfl,h2,h3,_⟩:=h1
   split at w
   ·rename_i xs D0
    split at w
    ·rename_i hc
     exact⟨sep,a,xs,hx.1,rfl, .inl (by rw[←lI D0 h3];exact s _ _ h2),hc.1,hc.2,WP.now w s ⟨rfl,by rw[ku];exact hc.2⟩⟩
    ·exact w.elim
   ·exact w.elim
  ·rename_i sep ds
   obtain⟨v,rfl,h1⟩:=hv.one
   obtain⟨a,ws,rfl,h2,h3,_⟩:=h1
   split at w
   ·rename_i xs D0
    split at w
    ·rename_i hc
     exact⟨sep,a,xs,hx.1,rfl, .inr (by rw[←lI D0 h3];exact s _ _ h2),hc.1,hc.2,WP.now w s ⟨rfl,by rw[ku];exact hc.2⟩⟩
    ·exact w.elim
   ·exact w.elim
  ·exact w.elim) ho ha dZ gW d4 qQ rfl
def gi:List D→M D
 |[.lst ds]=>M.ret (.tup ds)
 |[.tup ds]=>M.ret (.tup ds)
 |_=>M.stuck
theorem eV(hg:Gl X "tuple")(hm:X.mg "tuple"=none)(hb:bootBuiltins "tuple"=some (.type "tuple"))(ha:j0 X Xw [e] δs)(he:starEach [e] X.env=[(false,eval e X.env)]:=by rfl):PD X Xw (.Call (.Name "tuple" p) [e] [] pos) (dA gi δs):=
 mU lR (fun Xw F H vs ds Q s h w=>by
  unfold gi at w
  split at w
  ·rename_i ds
   obtain⟨v,rfl,h1⟩:=h.one
   obtain⟨a,ws,rfl,h2,h3,h4⟩:=h1
   exact⟨a,ws,rfl, .inl ⟨SqL.of (s _ _ h2),fun l hl=>WP.fin w (Ext.lay s hl) ⟨l,ws,rfl,aA,DenL.mono (Ext.lay s hl).ff h3,h4⟩⟩⟩
  ·rename_i ds
   obtain⟨v,rfl,h1⟩:=h.one
   obtain⟨a,ws,rfl,h2,h3,h4⟩:=h1
   exact⟨a,ws,rfl, .inr ⟨SqT.of (s _ _ h2),WP.now w s ⟨a,ws,rfl,h2,h3,h4⟩⟩⟩
  ·exact w.elim) hg hm hb ha (by decide) (by decide) he rfl
def ic(neg:Bool):D→D→M D
 | .str x, .str y=>M.ret (.bl (if neg then !(!(Builtin.Str.occurrences y x 0 y.length 1).isEmpty) else !(Builtin.Str.occurrences y x 0 y.length 1).isEmpty))
 |_,_=>M.stuck
theorem Aa(ha:PD X Xw a δa)(hb:PD X Xw b δb)(hm:behindInMarks .In b=false:=by rfl):PD X Xw (.Compare a [.In] [b] pos) (d2 (ic false) δa δb):=nY ud (fun Xw F H x y dx dy Q s hx hy w=>by
 unfold ic at w
 split at w
 ·exact⟨_,_,hx.1,hy.1,WP.now w s rfl⟩
 ·exact w.elim) ha hb hm
end
end L3
namespace L3
open PySem PySem.Spec L2 SeqAt HT
open PyProof.Rows hiding St
section
variable{prog:Program}{w:World}{A:Around}{E:Value→Shared→Prop}{s:Shared}
theorem gD{t sl:Addr}{items:Array Value}{vl vu:Value}{lo hi:Option Int}{Q:Value→Shared→Prop}(ht:IsTup s.heap t items)(hs:s.heap.IsSliceOf sl vl vu .none)(pl:IsPart vl lo)(pu:IsPart vu hi)
 (hw:sIx items.size 0 lo=0∧sIx items.size items.size hi=items.size)(h:Q (.ref t) s):wpAny (model prog w) A (getItem (.ref t) (.ref sl)) Q E s:=by
 obtain⟨os,tM,zA,yQ⟩:=id hs
 have Dq:s.TypeIs (.ref sl) "slice":=⟨os,tM,zA⟩
 unfold getItem
 try with_reducible refine wpAny_holding ?_
 first | refine wpAny_bind (wpAny_pure ?_) | skip
 refine wpAny_bind (wpAny_sequenceKey ht.typeIs (by decide) ?_)
 refine wpAny_bind (wpAny_callSpecial?_slot (name:=Str.ofString "__getitem__") ht.typeIs PyProof.Rows.slot_tuple_getitem
  (wpAny_call_entry PyProof.Rows.slot_tuple_getitem ht.typeIs entry_tuple_getitem ?_ (args_tuple_getitem _ _)))
 show wpAny _ _ (Builtin.Tuple.tupleItemsOf (.ref t)>>=_) _ _ s
 refine wpAny_bind (tupleItemsOf_ ht ?_)
 refine wpAny_bind (wpAny_typeOf Dq ?_)
 rw[if_pos (by decide)]
 refine wpAny_bind (sliceApplied_gen hs pl pu ?_)
 have zD:((((sIx items.size 0 lo:Nat):Int)==0&&(1:Int)==1&&(sIx items.size items.size hi - sIx items.size 0 lo)==items.size)=true):=by
  rw[hw.1,hw.2]
  simp
 show wpAny _ _ (if (((sIx items.size 0 lo:Nat):Int)==0&&(1:Int)==1&&(sIx items.size items.size hi - sIx items.size 0 lo)==items.size)=true then _ else _) _ _ s
 rw[if_pos zD]
 refine wpAny_bind ?_
 unfold Builtin.Tuple.tupleIsExact
 refine wpAny_bind (wpAny_typeOf ht.typeIs (wpAny_pure ?_))
 rw[if_pos (by decide)]
 exact wpAny_bind (wpAny_rule (wpAny_pure ⟨_,rfl,wpAny_pure h⟩))
end
section
variable{X:Cx}{Xw:Nat→Hp→Prop}{a b e:Expr}{lo hi:Option Expr}{δ δa δb:DE}{pos p p2:Pos}
theorem yy:SlR X (fun x lo hi H Q=>∃a xs,x= .ref a∧SqT X.K H a xs∧(sIx xs.length 0 lo=0∧sIx xs.length xs.length hi=xs.length)∧Q (.ref a) H):=by
 intro pins s σ H x v vl vu lo hi sl Q I rx hs pl pu h
 obtain⟨a,xs,rfl,hx,hw,q⟩:=h
 cases rx
 obtain⟨aG,r,ht,hz⟩:=I.tuple hx
 have hlen:aG.toArray.size=xs.length:=by rw[List.size_toArray];exact r.length.symm
 exact⟨"tuple",_,PyProof.Rows.slot_tuple_getitem.lookup,ht.typeIs,gD ht hs pl pu (by rw[hlen];exact hw) ⟨.ref a,H,I,rfl,q⟩⟩
theorem AD:SlR X (fun x lo hi H Q=>∃z:Str,x= .str z∧z.length≤lim∧Q (.str (Txt.slice z lo hi)) H):=by
 intro pins s σ H x v vl vu lo hi sl Q I rx hs pl pu h
 obtain⟨z,rfl,hl,q⟩:=h
 obtain⟨t,rfl⟩:=rx
 have hz:z.length≤sizeLine:=by have:=cJ;omega
 cases pl with
 |none=>
  cases pu with
  |none=>exact⟨"str",_,PySem.F.slot_str_getitem.lookup,typeIs_str _ _ _,wpAny_getItem_str_slice (l:=none) (u:=none) (st:=none) hs rfl (post_val_or_str ⟨Nat.le_trans (Txt.slice_le z _ _) hz,fun t' k=>⟨.str _,H,I.tok k,⟨t',rfl⟩,q⟩⟩)⟩
  |int j uj=>exact⟨"str",_,PySem.F.slot_str_getitem.lookup,typeIs_str _ _ _,wpAny_getItem_str_slice (l:=none) (u:=some (j,uj)) (st:=none) hs rfl (post_val_or_str ⟨Nat.le_trans (Txt.slice_le z _ _) hz,fun t' k=>⟨.str _,H,I.tok k,⟨t',rfl⟩,q⟩⟩)⟩
 |int i ui=>
  cases pu with
  |none=>exact⟨"str",_,PySem.F.slot_str_getitem.lookup,typeIs_str _ _ _,wpAny_getItem_str_slice (l:=some (i,ui)) (u:=none) (st:=none) hs rfl (post_val_or_str ⟨Nat.le_trans (Txt.slice_le z _ _) hz,fun t' k=>⟨.str _,H,I.tok k,⟨t',rfl⟩,q⟩⟩)⟩
  |int j uj=>exact⟨"str",_,PySem.F.slot_str_getitem.lookup,typeIs_str _ _ _,wpAny_getItem_str_slice (l:=some (i,ui)) (u:=some (j,uj)) (st:=none) hs rfl (post_val_or_str ⟨Nat.le_trans (Txt.slice_le z _ _) hz,fun t' k=>⟨.str _,H,I.tok k,⟨t',rfl⟩,q⟩⟩)⟩
abbrev DO:=aY→M (Option Int)
def WPO(Xw:Nat→Hp→Prop)(F H:Hp)(m:M (Option Int))(Q:Option Int→Hp→Prop):Prop:=
 match m with
 |none=>False
 |some (.ok b)=>∀H' F',Ext F H F' H'→Q b H'
 |some (.ex n)=>∀F' H',Ext F H F' H'→Xw n H'
def G3(K:W.Frag)(Xw:Nat→Hp→Prop)(δ:DO):TO:=fun σ H Q=>∃F ρ,StE K F H σ ρ∧WPO Xw F H (δ ρ) Q
def C1(X:Cx)(Xw:Nat→Hp→Prop)(e:Option Expr)(δ:DO):Prop:=PO X e (G3 X.K Xw δ)
def oS(δ:DE):DO:=fun ρ=>δ ρ>>=fun d=>match d with | .int i=>M.ret (some i) | _=>M.stuck
theorem b8(h:PD X Xw e δ):C1 X Xw (some e) (oS δ):=fun pins s σ H Q I ⟨F,ρ,S,w⟩=>yj h pins s σ H Q I ⟨F,ρ,S,by
 have w:WPO Xw F H (δ ρ>>=fun d=>match d with | .int i=>M.ret (some i) | _=>M.stuck) Q:=w
 rcases(δ ρ).cs with q | ⟨n,q⟩ | ⟨d,q⟩
 ·rw[q] at w;exact w.elim
 ·rw[q] at w⊢;exact w
 ·rw[q] at w⊢
  intro v H' F' e' hd
  cases d with
  |int i=>exact⟨i,hd,w H' F' e'⟩
  |_=>exact w.elim⟩
theorem WP.bindO{K:W.Frag}{Xw:Nat→Hp→Prop}{F H:Hp}{Q:VK}{m:M (Option Int)}{k:Option Int→M D}(h:WP K Xw F H (m>>=k) Q):WPO Xw F H m fun b H1=>∃F1,Ext F H F1 H1∧WP K Xw F1 H1 (k b) Q:=by
 match m,h with
 |none,h=>exact h
 |some (.ok d),h=>exact fun H2 F2 e2=>⟨F2,e2,WP.ext e2 (show WP K Xw F H (k d) Q from h)⟩
 |some (.ex n),h=>exact h
theorem WPO.mono{Xw:Nat→Hp→Prop}{F H:Hp}{m:M (Option Int)}{Q Q':Option Int→Hp→Prop}(h:WPO Xw F H m Q)(k:∀v H',Q v H'→Q' v H'):WPO Xw F H m Q':=by
 match m,h with
 |none,h=>exact h
 |some (.ok d),h=>exact fun H2 F2 e2=>k _ _ (h H2 F2 e2)
 |some (.ex n),h=>exact h
def cutD(ds:List D)(lo hi:Option Int):List D:=(ds.drop (sIx ds.length 0 lo)).take (sIx ds.length ds.length hi - sIx ds.length 0 lo)
def Fq:D→Option Int→Option Int→M D
 | .tup ds,lo,hi=>M.ret (.tup (cutD ds lo hi))
 | .lst ds,lo,hi=>M.ret (.lst (cutD ds lo hi))
 | .str x,lo,hi=>M.ret (.str (Txt.slice x lo hi))
 |_,_,_=>M.stuck
def nr(a:DE)(lo hi:DO):DE:=fun ρ=>a ρ>>=fun d=>lo ρ>>=fun l=>hi ρ>>=fun h=>Fq d l h
theorem oZ(ds:List D)(lo hi:Option Int):(cutD ds lo hi).length≤ds.length:=by
 unfold cutD
 rw[List.length_take,List.length_drop]
 omega
theorem DenL.cut{K:W.Frag}{F:Hp}{ds:List D}{vs:List V}(h:DenL K F ds vs)(lo hi:Option Int):DenL K F (cutD ds lo hi) (o3 vs lo hi):=by
 unfold cutD o3
 rw[h.len]
 exact(h.drop _).take _
theorem mW{δo:DE}{κl κh:DO}(he:PD X Xw e δo)(hl:C1 X Xw lo κl)(hh:C1 X Xw hi κh):PD X Xw (.Subscript e (.Slice lo hi none p2) pos) (nr δo κl κh):=
 PE.weak (v_ (yy.or (AE.or (yx.or AD))) he hl hh) fun σ H Q ⟨F,ρ,s,w⟩=>by
  refine⟨F,ρ,s,WP.mono (WP.bind w) fun v H1 ⟨F1,d,e1,q1,w1⟩=>?_⟩
  refine⟨F1,ρ,s.ext e1,WPO.mono (WP.bindO w1) fun l H2 ⟨F2,e2,w2⟩=>?_⟩
  refine⟨F2,ρ,(s.ext e1).ext e2,WPO.mono (WP.bindO w2) fun h H3 ⟨F3,e3,w3⟩=>?_⟩
  have q3:=Den.mono (e2.ff.trans e3.ff) q1
  have fh:=e3.fh
  cases d with
  |tup ds=>
   obtain⟨a,vs,rfl,h2,h3,h4⟩:=q3
   by_cases hw:sIx vs.length 0 l=0∧sIx vs.length vs.length h=vs.length
   ·refine .inl ⟨a,vs,rfl,SqT.of (fh _ _ h2),hw,?_⟩
    have hc:cutD ds l h=ds:=by
     unfold cutD
     rw[h3.len,hw.1,hw.2,Nat.sub_zero,List.drop_zero,←h3.len,List.take_length]
    have w3:WP X.K Xw F3 H3 (M.ret (.tup (cutD ds l h))) Q:=w3
    rw[hc] at w3
    exact WP.now w3 fh ⟨a,vs,rfl,h2,h3,h4⟩
   ·exact .inr (.inl ⟨a,vs,rfl,SqT.of (fh _ _ h2),hw,fun p hp=>WP.fin w3 (Ext.lay fh hp) ⟨p,_,rfl,aA,DenL.mono (Ext.lay fh hp).ff (h3.cut l h),Nat.le_trans (oZ _ _ _) h4⟩⟩)
  |lst ds=>
   obtain⟨a,vs,rfl,h2,h3,h4⟩:=q3
   exact .inr (.inr (.inl ⟨a,vs,rfl,SqL.of (fh _ _ h2),fun p hp=>WP.fin w3 (Ext.lay fh hp) ⟨p,_,rfl,aA,DenL.mono (Ext.lay fh hp).ff (h3.cut l h),Nat.le_trans (oZ _ _ _) h4⟩⟩))
  |str x=>exact .inr (.inr (.inr ⟨x,q3.1,q3.2,WP.now w3 fh ⟨rfl,Nat.le_trans (Txt.slice_le x _ _) q3.2⟩⟩))
  |_=>exact w3.elim
end
section
variable{prog:Program}{w:World}{A:Around}{E:Value→Shared→Prop}{s:Shared}
end
section
variable{X:Cx}{Xw:Nat→Hp→Prop}{a b e:Expr}{δ δa δb:DE}{pos p p2:Pos}
end
def Cy(x:Str):It:=⟨fun i _=>i<x.cps.size,fun i H v H'=>H'=H∧∃c,x.cps[i]? =some c∧v= .str ⟨#[c]⟩,fun i _=>x.cps.size≤i⟩
theorem uA{P:Program}{w:World}{K:W.Frag}{tg:Expr}(it:Addr)(x:Str)(t:Tok):Turn P w K tg (Cy x) [it] it (fun i h=>i≤x.cps.size∧h.IsStrIter it "str_ascii_iterator" x t i) where
 mem:=by simp
 obj:=fun i h st b hb=>by
  have e:b=it:=by simpa using hb
  subst e
  obtain⟨_,o,e,c,d⟩:=st
  exact⟨o,e,fun v z=>by rw[d] at z;cases z⟩
 keep:=fun i h h' st k=>⟨st.1,let ⟨o,e,r⟩:=st.2;⟨o,k it (by simp) o e,r⟩⟩
 item:=by
  intro X hP hw hK hc i pins s σ H E I hf st hg
  subst hP hw hK
  obtain⟨f0,f1,f2,f3,f4,f5⟩:=hf it (by simp)
  have hi:i<x.cps.size:=hg
  refine(Walks.strAscii (prog:=X.prog) (w:=X.w) (I.ok.hd hc) it x t).item i s _ _ hi st.2 fun v h' tk hv qd kk=>?_
  obtain⟨c,u,Dx,rfl⟩:=hv
  have I1:Inv X pins σ H {s with heap:=h',toks:=tk}:=I.turned (fun b o hb e=>kk b o (by simpa using hb) e) f0 f1 f3 f4 f5
  obtain⟨o,e,cc,dd⟩:=id qd
  exact⟨_,rfl,ph (s:={s with heap:=h',toks:=tk}) e cc dd (by decide) ⟨.str ⟨#[c]⟩,H,I1,⟨u,rfl⟩,⟨rfl,c,Dx,rfl⟩,⟨hi,qd⟩,fun b hb=>(hf b hb).1⟩⟩
 done:=by
  intro X hP hw hK hc i pins s σ H E I hf st hg
  subst hP hw hK
  obtain⟨f0,f1,f2,f3,f4,f5⟩:=hf it (by simp)
  have hi:i=x.cps.size:=Nat.le_antisymm st.1 hg
  subst hi
  exact(Walks.strAscii (prog:=X.prog) (w:=X.w) (I.ok.hd hc) it x t).done s _ _ st.2 fun h' tk kk=>⟨rfl,I.turned (fun b o hb e=>kk b o (by simpa using hb) e) f0 f1 f3 f4 f5⟩
 self:=fun _ _ _ _ _ st h=>wpAny_pyIter_striter_ascii st.2 h
theorem uB{P:Program}{w:World}{K:W.Frag}{tg:Expr}(it:Addr)(x:Str)(t:Tok):Turn P w K tg (Cy x) [it] it (fun i h=>i≤x.cps.size∧h.IsStrIter it "str_iterator" x t i) where
 mem:=by simp
 obj:=fun i h st b hb=>by
  have e:b=it:=by simpa using hb
  subst e
  obtain⟨_,o,e,c,d⟩:=st
  exact⟨o,e,fun v z=>by rw[d] at z;cases z⟩
 keep:=fun i h h' st k=>⟨st.1,let ⟨o,e,r⟩:=st.2;⟨o,k it (by simp) o e,r⟩⟩
 item:=by
  intro X hP hw hK hc i pins s σ H E I hf st hg
  subst hP hw hK
  obtain⟨f0,f1,f2,f3,f4,f5⟩:=hf it (by simp)
  have hi:i<x.cps.size:=hg
  refine(Walks.strWide (prog:=X.prog) (w:=X.w) (I.ok.hd hc) it x t).item i s _ _ hi st.2 fun v h' tk hv qd kk=>?_
  obtain⟨c,u,Dx,rfl⟩:=hv
  have I1:Inv X pins σ H {s with heap:=h',toks:=tk}:=I.turned (fun b o hb e=>kk b o (by simpa using hb) e) f0 f1 f3 f4 f5
  obtain⟨o,e,cc,dd⟩:=id qd
  exact⟨_,rfl,ph (s:={s with heap:=h',toks:=tk}) e cc dd (by decide) ⟨.str ⟨#[c]⟩,H,I1,⟨u,rfl⟩,⟨rfl,c,Dx,rfl⟩,⟨hi,qd⟩,fun b hb=>(hf b hb).1⟩⟩
 done:=by
  intro X hP hw hK hc i pins s σ H E I hf st hg
  subst hP hw hK
  obtain⟨f0,f1,f2,f3,f4,f5⟩:=hf it (by simp)
  have hi:i=x.cps.size:=Nat.le_antisymm st.1 hg
  subst hi
  exact(Walks.strWide (prog:=X.prog) (w:=X.w) (I.ok.hd hc) it x t).done s _ _ st.2 fun h' tk kk=>⟨rfl,I.turned (fun b o hb e=>kk b o (by simpa using hb) e) f0 f1 f3 f4 f5⟩
 self:=fun _ _ _ _ _ st h=>wpAny_pyIter_striter_wide st.2 h
section
variable{X:Cx}{Xw:Nat→Hp→Prop}{tg a b e l o:Expr}{δ δa δb δo:DE}{δs:DA}{pos p p2 apos aM:Pos}
def D3(tl:TE):TI:=fun σ H R=>tl σ H fun x H1=>∃z,x= .str z∧R (Cy z) H1
theorem Ap{tl:TE}(hl:PE X l tl):PI X tg l (D3 tl):=by
 intro pins s σ H R I h
 refine bV (hl pins s σ H _ I h) fun v s1 ⟨x,H1,I1,r1,q1⟩=>?_
 obtain⟨z,e,q⟩:=q1
 subst e
 obtain⟨t,rfl⟩:=r1
 have fp:∀b∈[s1.heap.objs.size],oR X pins H1 b:=fun b hb=>by
  have e:b=s1.heap.objs.size:=by simpa using hb
  subst e
  exact I1.fpOk (Nat.le_refl _) (I1.hok.fresh (Nat.le_refl _))
 cases ha:z.cps.all (· <128)
 ·exact wpAny_pyIter_wide ha ⟨s1.heap.objs.size,[s1.heap.objs.size],_,_,H1,rfl,I1.kept (t':=s1.toks) fun b o e=>Heap.get?_push_of_some _ e,uB _ z t,⟨Nat.zero_le _,_,Heap.get?_push_size _ rfl,rfl,rfl⟩,fp,q⟩
 ·exact wpAny_pyIter_ascii ha ⟨s1.heap.objs.size,[s1.heap.objs.size],_,_,H1,rfl,I1.kept (t':=s1.toks) fun b o e=>Heap.get?_push_of_some _ e,uA _ z t,⟨Nat.zero_le _,_,Heap.get?_push_size _ rfl,rfl,rfl⟩,fp,q⟩
def signs(x:Str):List D:=x.cps.toList.map fun c=>D.str ⟨#[c]⟩
def gh:D→M (List D)
 | .str x=>M.ret (signs x)
 |_=>M.stuck
theorem xF{K:W.Frag}{F:Hp}(x:Str):ItD K F (Cy x) (signs x):=fun F' H' i s1 s2=>by
 refine⟨fun d e=>?_,fun hl=>show x.cps.size≤i by simpa[signs] using hl⟩
 unfold signs at e
 rw[List.getElem?_map] at e
 cases q:x.cps.toList[i]? with
 |none=>rw[q] at e;cases e
 |some c=>
  rw[q] at e
  cases e
  have hi:i<x.cps.size:=by
   have:=(List.getElem?_eq_some_iff.mp q).1
   simpa using this
  refine⟨hi,fun v H'' y=>?_⟩
  obtain⟨e2,c',yN,rfl⟩:=y
  subst e2
  have:c'=c:=by
   have q':x.cps[i]? =some c:=by simpa using q
   rw[q'] at yN
   exact(Option.some.inj yN).symm
  subst this
  exact⟨F',Ext.refl s2,rfl,by show 1≤lim;decide⟩
theorem gy(h:PD X Xw l δ):yC X Xw tg l (fun ρ=>δ ρ>>=gh):=PI.weak (Ap h) fun σ H R ⟨F,ρ,s,w⟩=>by
 refine⟨F,ρ,s,WP.mono (WPI.bind w) fun v H1 ⟨F1,d,e1,q1,w1⟩=>?_⟩
 cases d with
 |str z=>exact⟨z,q1.1,w1 _ _ _ (Ext.refl e1.fh) (xF z)⟩
 |_=>exact w1.elim
def zM:Value→Bool
 | .bool b=>b
 |_=>false
theorem u4{A:Around}{s:Shared}{bs:List Bool}:∀y,y∈(bs.map Value.bool).toArray→EqAt A s y (.bool true) (zM y):=fun y hy=>by
 have hy:y∈bs.map Value.bool:=by simpa using hy
 obtain⟨b,_,rfl⟩:=List.mem_map.mp hy
 have:=EqAt.bool_bool (A:=A) (s:=s) b true
 cases b<;>exact this
def tB:D→List D→M D
 | .lst ds,[.bl true]=>match bools ds with | some bs=>M.ret (.int (bs.count true)) | none=>M.stuck
 |_,_=>M.stuck
def zI:D→List D→M D
 | .lst ds,[.bl true]=>match bools ds with
   |some bs=>if bs.contains true then M.ret (.int (bs.idxOf true)) else M.stuck
   |none=>M.stuck
 |_,_=>M.stuck
theorem oY:∀bs:List Bool,(bs.map Value.bool).countP zM=bs.count true
 |[]=>rfl
 |b::bs=>by
  rw[List.map_cons,List.countP_cons,oY bs,List.count_cons]
  cases b<;>rfl
def Ej:V→List V→Hp→VK→Prop:=fun x vs H Q=>∃(a:Addr) (bs:List Bool),x= .ref a∧vs=[.bl true]∧H a=some (.lst (bs.map V.bl))∧Q (.int (bs.count true)) H
def Ek:V→List V→Hp→VK→Prop:=fun x vs H Q=>∃(a:Addr) (bs:List Bool),x= .ref a∧vs=[.bl true]∧H a=some (.lst (bs.map V.bl))∧bs.contains true=true∧Q (.int (bs.idxOf true)) H
theorem zW:AN X "list.count" Ej:=by
 intro pins s σ H x vs v us Q I rx rv h
 obtain⟨a,bs,rfl,rfl,hH,q⟩:=h
 cases rx
 obtain⟨u,rfl,r1⟩:=rv.one
 cases (show u=_ from r1)
 obtain⟨z,aG,n,r,hl,e⟩:=I.lstM hH
 obtain rfl:=kl r
 refine call_meets F.slot_list_count ⟨_,e,rfl⟩ F.entry_list_count (F.args_list_count_2 _ _) (list_countAt a _ n none #[] (.bool true) zM) ⟨e,u4,?_⟩
 have ec:((bs.map Value.bool).toArray.toList.countP zM)=bs.count true:=oY bs
 rw[ec]
 exact⟨.int (bs.count true),H,I.tok _,⟨_,rfl⟩,q⟩
theorem zX:AN X "list.index" Ek:=by
 intro pins s σ H x vs v us Q I rx rv h
 obtain⟨a,bs,rfl,rfl,hH,hc,q⟩:=h
 cases rx
 obtain⟨u,rfl,r1⟩:=rv.one
 cases (show u=_ from r1)
 obtain⟨z,aG,n,r,hl,e⟩:=I.lstM hH
 obtain rfl:=kl r
 have hm:true∈bs:=by simpa using hc
 have j2:bs.idxOf true<bs.length:=List.idxOf_lt_length_iff.mpr hm
 have hz:bs.length≤sizeLine:=by simpa using z
 have hs:sizeLine=16777216:=sizeLine_eq
 refine call_meets F.slot_list_index ⟨_,e,rfl⟩ F.entry_list_index (F.args_list_index_2 _ _) (list_indexAt a _ n none #[] (.bool true) zM (bs.idxOf true) (by simpa using j2) (by omega) ?_ ?_) ⟨e,u4,?_⟩
 ·have:bs[bs.idxOf true]=true:=List.getElem_idxOf j2
  simp[zM,this]
 ·intro m CH xA
  have CI:m<bs.length:=by simpa using CH
  have:bs[m]≠true:=fun z=>by
   have:=List.not_of_lt_findIdx (p:=(· ==true)) (xs:=bs) (i:=m) xA
   rw[z] at this
   simp at this
  simp[zM]
  simpa using this
 ·exact⟨.int (bs.idxOf true),H,I.tok _,⟨_,rfl⟩,q⟩
theorem z9(ho:PD X Xw o δo)(ha:j0 X Xw [e] δs)(dZ:attributeBase o "count" X.env (eval o X.env)=eval o X.env:=by rfl)
 (gW:((backTo aM (starEach [e] X.env)).all (fun x=>!x.1)&&(backToKw aM (keywordEach [] X.env)).all (fun x=>x.1.isSome)&&decide ([e].length+([]:List Keyword).length+(if ([]:List Keyword).isEmpty then 0 else 1)<30))=true:=by rfl)
 (d4:(apos.endLine==aM.line)=true:=by rfl)(qQ:starEach [e] X.env=[(false,eval e X.env)]:=by rfl):PD X Xw (.Call (.Attribute o "count" apos) [e] [] aM) (dM jy tB δo δs):=
 sF PySem.F.plainAttrs_list PySem.F.slot_list_count PySem.F.type_list_count zW pq (fun Xw F H x vs d ds Q s hx hv w=>by
  unfold tB at w
  split at w
  ·rename_i ds
   obtain⟨v,rfl,h1⟩:=hv.one
   cases (show _=_ from h1)
   obtain⟨a,ws,rfl,h2,h3,_⟩:=hx
   split at w
   ·rename_i bs hb
    exact⟨a,bs,rfl,rfl,by rw[←gn hb h3];exact s _ _ h2,WP.now w s rfl⟩
   ·exact w.elim
  ·exact w.elim) ho ha dZ gW d4 qQ rfl
theorem z_(ho:PD X Xw o δo)(ha:j0 X Xw [e] δs)(dZ:attributeBase o "index" X.env (eval o X.env)=eval o X.env:=by rfl)
 (gW:((backTo aM (starEach [e] X.env)).all (fun x=>!x.1)&&(backToKw aM (keywordEach [] X.env)).all (fun x=>x.1.isSome)&&decide ([e].length+([]:List Keyword).length+(if ([]:List Keyword).isEmpty then 0 else 1)<30))=true:=by rfl)
 (d4:(apos.endLine==aM.line)=true:=by rfl)(qQ:starEach [e] X.env=[(false,eval e X.env)]:=by rfl):PD X Xw (.Call (.Attribute o "index" apos) [e] [] aM) (dM jy zI δo δs):=
 sF PySem.F.plainAttrs_list PySem.F.slot_list_index PySem.F.type_list_index zX pq (fun Xw F H x vs d ds Q s hx hv w=>by
  unfold zI at w
  split at w
  ·rename_i ds
   obtain⟨v,rfl,h1⟩:=hv.one
   cases (show _=_ from h1)
   obtain⟨a,ws,rfl,h2,h3,_⟩:=hx
   split at w
   ·rename_i bs hb
    split at w
    ·rename_i hc
     exact⟨a,bs,rfl,rfl,by rw[←gn hb h3];exact s _ _ h2,hc,WP.now w s rfl⟩
    ·exact w.elim
   ·exact w.elim
  ·exact w.elim) ho ha dZ gW d4 qQ rfl
end
end L3
namespace L3
open PySem PySem.Spec L2 SeqAt HT
open PyProof.Rows hiding St
open PySem.W (Frag Looks InstAt findIn mroIn)
open PySem.Builtin PySem.Builtin.ObjectAttr PySem.Builtin.Getset_descriptor
section
variable{prog:Program}{w:World}{A:Around}{E:Value→Shared→Prop}{h:Heap}{g:Array GenState}{d:Drawn}{t:Nat}{os:OsState}{x D:Addr}{ox:Obj}{K:Frag}
theorem qG{tp:Value}{R:Result→Shared→Prop}(X:K.In h)(hx:h.get? x=some ox)(hc:ox.cls= .ref D)(hm:mroIn K D (.type "object")=some true)
 (hq:R (.ok (.ret (.ref D))) ⟨h,g,d,t,os⟩):codeAny (model prog w) A (.call (.builtin "getset_descriptor.__get__") ⟨[.builtin "object.__class__", .ref x,tp],[]⟩) R ⟨h,g,d,t,os⟩:=by
 have L0:Looks (model prog w) h (typeOf (.ref x)) (.ref D):=hc▸(Looks.ld hx).andThen .now
 have L1:=PySem.W.looks_mroIn (M:=model prog w) X hm
 refine codeAny_call_builtin PySem.W.KF.slot_gs.plain PySem.W.KF.entry_gs (PySem.W.KF.slot_gs.check _ _ _ _ _ _ _ _ PySem.W.KF.type_class (PySem.W.KF.args_gs _ _ _) ?_)
 unfold Builtin.«getset_descriptor.__get__» descrGet
 rw[PySem.W.dga_obj]
 refine wpAny_bind (wpAny_pure ?_)
 unfold descrGetter descrCheckInstance descrNameAndClass isInstance
 simp only[PySem.W.KF.owner_class]
 repeat lk
 refine⟨Code.quiet_builtin _ (by decide+kernel),codeAny_builtin PySem.W.KF.entry_class ?_⟩
 unfold Builtin.«object.__class__» shownTypeOf
 repeat lk
 exact hq
theorem j1{tk:Tok}{Q:PySem.Fin→Shared→Prop}(X:K.In h)(hx:h.get? x=some ox)(hc:ox.cls= .ref D)(ha:findIn K (.ref D) "__class__"=some (some (.builtin "object.__class__")))(hm:mroIn K D (.type "object")=some true)
 (hq:Q (.done (.ret (.ref D))) ⟨h,g,d,t,os⟩):wpAny (model prog w) A (Builtin.«object.__getattribute__» ⟨[.ref x, .str "__class__" tk],[]⟩) Q E ⟨h,g,d,t,os⟩:=by
 have Hj:(⟨h,g,d,t,os⟩:Shared).TypeIs (.builtin "object.__class__") "getset_descriptor":=F.typeOf_object_class
 have f5:=F.typeOf_object_class
 have f6:=F.slot_gs_get.lookup
 have f7:=F.slot_gs_set.lookup
 have LC:Looks (model prog w) h (typeLookup (.ref D) "__class__") (some (.builtin "object.__class__")):=PySem.W.looks_findIn X ha
 repeat (any_goals (first | assumption | (with_reducible refine wpAny_loadPart_at hx ?_;rw[hc]) | with_reducible refine LC.at ?_ | wp_step))
 exact qG X hx hc hm (wpAny_pure hq)
theorem nk{M:Model}{yV:Value}{Q:Unit→Shared→Prop}(X:K.In h)(hx:h.get? x=some ox)(hc:ox.cls= .ref D)(hb:mroIn K D (.type "BaseException")=some true)(hq:Q () ⟨h,g,d,t,os⟩):
 wpAny M A (checkBuiltinCall "BaseException.__getattribute__" ⟨[.ref x,yV],[]⟩) Q E ⟨h,g,d,t,os⟩:=by
 have hk:builtinKind "BaseException.__getattribute__"=some .slot:=by decide+kernel
 have zG:splitId "BaseException.__getattribute__"=some ("BaseException","__getattribute__"):=by decide+kernel
 have LB:Looks M h (isSubtype (.ref D) (.type "BaseException")) true:=PySem.W.looks_mroIn X hb
 have ha:=F.args_bexc_ga (.ref x) yV
 simp only[checkBuiltinCall,hk,zG]
 refine wpAny_bind ?_
 ·unfold isInstance
  repeat (first | (with_reducible refine wpAny_loadPart_at hx ?_;rw[hc]) | with_reducible refine LB.at ?_ | wp_step)
  exact hq
theorem ky{tk:Tok}{R:Result→Shared→Prop}(X:K.In h)(hx:h.get? x=some ox)(hc:ox.cls= .ref D)(ha:findIn K (.ref D) "__class__"=some (some (.builtin "object.__class__")))(hm:mroIn K D (.type "object")=some true)(hb:mroIn K D (.type "BaseException")=some true)
 (hq:R (.ok (.ret (.ref D))) ⟨h,g,d,t,os⟩):codeAny (model prog w) A (.call (.builtin "BaseException.__getattribute__") ⟨[.ref x, .str "__class__" tk],[]⟩) R ⟨h,g,d,t,os⟩:=
 codeAny_call_builtin (by decide+kernel) F.entry_bexc_ga (nk X hx hc hb (j1 X hx hc ha hm hq))
theorem kx{Q:Option Value→Shared→Prop}(X:K.In h)(hx:h.get? x=some ox)(hc:ox.cls= .ref D)(Gj:findIn K (.ref D) "__getattribute__"=some (some (.builtin "BaseException.__getattribute__")))(Gn:findIn K (.ref D) "__getattr__"=some none)
 (ha:findIn K (.ref D) "__class__"=some (some (.builtin "object.__class__")))(hm:mroIn K D (.type "object")=some true)(hb:mroIn K D (.type "BaseException")=some true)
 (hq:Q (some (.ref D)) ⟨h,g,d,t+1,os⟩):wpAny (model prog w) A (getAttr? (.ref x) "__class__") Q E ⟨h,g,d,t,os⟩:=by
 have LG:Looks (model prog w) h (typeLookup (.ref D) "__getattribute__") (some (.builtin "BaseException.__getattribute__")):=PySem.W.looks_findIn X Gj
 have LH:Looks (model prog w) h (typeLookup (.ref D) "__getattr__") none:=PySem.W.looks_findIn X Gn
 have GP:(Value.builtin "BaseException.__getattribute__"==Value.builtin "object.__getattribute__")=false:=by decide+kernel
 have Hv:(onTheHeap (Value.ref D)&&Value.builtin "BaseException.__getattribute__"==Value.builtin "object.__getattribute__")=false:=by rw[GP];rfl
 have f3:=PySem.F.excAttr_ValueError.ga.bind (.ref x)
 unfold getAttr? getAttrBy?
 repeat (any_goals (first | assumption | (with_reducible refine wpAny_loadPart_at hx ?_;rw[hc]) | with_reducible refine LG.at ?_ | with_reducible refine LH.at ?_ | wp_step))
 refine ky X hx hc ha hm hb ?_
 repeat (any_goals (first | assumption | wp_step))
structure ExcC (K:Frag) (D:Addr):Prop where
 ga:findIn K (.ref D) "__getattribute__"=some (some (.builtin "BaseException.__getattribute__"))
 gt:findIn K (.ref D) "__getattr__"=some none
 ca:findIn K (.ref D) "__class__"=some (some (.builtin "object.__class__"))
 mo:mroIn K D (.type "object")=some true
 mb:mroIn K D (.type "BaseException")=some true
 cl:(PySem.W.clsIn K D).isSome=true
theorem pA(c:ExcC K D):PySem.W.KitX K (.ref x) (.ref D) (fun h=>∃ox,h.get? x=some ox∧ox.cls= .ref D) where
 ty:=fun _ _ _ ⟨_,hx,hc⟩=>hc▸(Looks.ld hx).andThen .now
 it:=fun _ _ X _=>by
  obtain⟨FD,zy⟩:=Option.isSome_iff_exists.mp c.cl
  unfold PySem.W.clsIn at zy
  split at zy
  ·rename_i c' d' FC yw ho
   intro A' Q' E' s' k q
   unfold isType loadHead
   exact wpAny_bind (wpAny_loadPart (k _ _ (X _ _ ho)) (wpAny_pure q))
  ·cases zy
 ne:=fun h tp dd aG n sl X GK=>by
  obtain⟨FD,zy⟩:=Option.isSome_iff_exists.mp c.cl
  refine Bool.eq_false_iff.mpr fun q=>?_
  have e:D=tp:=Value.ref.inj (beq_iff_eq.mp q)
  subst e
  unfold PySem.W.clsIn at zy
  split at zy
  ·rename_i c' d' FC yw ho
   have z:=(X _ _ ho).symm.trans GK
   cases z
  ·cases zy
 ca:=fun {_ _ _ _ _ s} X ⟨_,hx,hc⟩ k=>by
  obtain⟨hh,g,d,t,os⟩:=s
  exact kx X hx hc c.ga c.gt c.ca c.mo c.mb k
end
section
variable{X:Cx}{Xw:Nat→Hp→Prop}{e e2:Expr}{δs:DA}{pos p:Pos}
def El(K:Frag):List V→Hp→VK→Prop:=fun xs H Q=>∃ea C D b,xs=[.ref ea, .ref D]∧H ea=some (y8 ea C)∧ExcC K C∧PySem.W.kitOne K (.ref C) (.ref D)=some b∧Q (.bl b) H
def B9(K:Frag):List V→Hp→VK→Prop:=fun xs H Q=>∃ea C T b,xs=[.ref ea, .ty T]∧H ea=some (y8 ea C)∧ExcC K C∧PySem.W.kitOne K (.ref C) (.type T)=some b∧Q (.bl b) H
theorem uR:CallR X (.builtin "isinstance") (El X.K):=by
 intro pins s σ H xs us Q I r h
 obtain⟨ea,C,D,b,rfl,hH,hc,e,q⟩:=h
 obtain⟨u,w',rfl,r1,r2⟩:=vals2 r
 cases (show u=_ from r1)
 cases (show w'=_ from r2)
 obtain⟨hx,_,_⟩:=I.hok ea _ hH
 exact PySem.W.kia_one (pA hc) I.kIn hx e (fun z=>nomatch z) fun tk=>⟨.bl b,H,I.tok tk,rfl,q⟩
theorem tw:CallR X (.builtin "isinstance") (B9 X.K):=by
 intro pins s σ H xs us Q I r h
 obtain⟨ea,C,D,b,rfl,hH,hc,e,q⟩:=h
 obtain⟨u,w',rfl,r1,r2⟩:=vals2 r
 cases (show u=_ from r1)
 cases (show w'=_ from r2)
 obtain⟨hx,_,_⟩:=I.hok ea _ hH
 exact PySem.W.kia_one (pA hc) I.kIn hx e (fun z=>nomatch z) fun tk=>⟨.bl b,H,I.tok tk,rfl,q⟩
def pw(K:Frag)(cs:List Addr):List D→M D
 |[.exc C, .raw (.ref D)]=>if C∈cs then(match PySem.W.kitOne K (.ref C) (.ref D) with | some b=>M.ret (.bl b) | none=>M.stuck) else M.stuck
 |[.exc C, .raw (.ty T)]=>if C∈cs then(match PySem.W.kitOne K (.ref C) (.type T) with | some b=>M.ret (.bl b) | none=>M.stuck) else M.stuck
 |_=>M.stuck
theorem n4{cs:List Addr}(zA:∀C∈cs,ExcC X.K C)(hg:Gl X "isinstance")(hm:X.mg "isinstance"=none)(hb:bootBuiltins "isinstance"=some (.builtin "isinstance"))(ha:j0 X Xw [e,e2] δs)(he:starEach [e,e2] X.env=(false,eval e X.env)::starEach [e2] X.env:=by rfl)
 (ke:(backTo pos (starEach [e2] X.env)).any (·.1)=false:=by rfl):PD X Xw (.Call (.Name "isinstance" p) [e,e2] [] pos) (dA (pw X.K cs) δs):=
 f9 (uR.or tw) (fun Xw F H vs ds Q s h w=>by
  unfold pw at w
  split at w
  ·rename_i C D
   obtain⟨v,v',rfl,h1,h2⟩:=h.two
   cases (show _=_ from h2)
   obtain⟨ea,rfl,h3⟩:=h1
   split at w
   ·rename_i hC
    split at w
    ·rename_i b hb
     exact .inl ⟨ea,C,D,b,rfl,s _ _ h3,zA C hC,hb,WP.now w s rfl⟩
    ·exact w.elim
   ·exact w.elim
  ·rename_i C T
   obtain⟨v,v',rfl,h1,h2⟩:=h.two
   cases (show _=_ from h2)
   obtain⟨ea,rfl,h3⟩:=h1
   split at w
   ·rename_i hC
    split at w
    ·rename_i b hb
     exact .inr ⟨ea,C,T,b,rfl,s _ _ h3,zA C hC,hb,WP.now w s rfl⟩
    ·exact w.elim
   ·exact w.elim
  ·exact w.elim) hg hm hb ha (by decide) (by decide) he ke
end
end L3
namespace L3
open PySem PySem.Spec L2 SeqAt HT
open PyProof.Rows hiding St
open PySem.W (Frag Looks findIn mroIn)
theorem nI{ea C:Addr}{h1 h2:Heap}(x:rT h1 ea C)(k:∀o,h1.get? ea=some o→h2.get? ea=some o):rT h2 ea C:=
 let ⟨ox,a,b⟩:=x
 ⟨ox,k ox a,b⟩
def wF(τ:DS)(hd:Nat→M D):DS:=fun ρ=>match τ ρ with
 |some (.ex n)=>hd n>>=fun d=>M.ret (.rt d)
 |r=>r
abbrev kK(X:Cx)(pn:List (Addr×Obj))(E:Value→Shared→Prop):Cx:={X with pn:=pn,xe:=E}
abbrev gw(X:Cx)(ea:Addr)(E:Value→Shared→Prop):Cx:={X with A:=X.A.mark (some (.ref ea)),calm:=false,xe:=E}
section
variable{X:Cx}{pins pn:List (Addr×Obj)}{σ:St}{H:Hp}{s:Shared}{E:Value→Shared→Prop}{ea:Addr}
theorem vJ(ok:X.Ok):(kK X pn E).Ok:=⟨ok.mod,ok.kind,ok.glob,ok.blt,ok.above,ok.inj,ok.has,ok.cab,ok.hd,ok.frames,ok.stk,ok.exf,ok.bs,ok.bsz,ok.noex,ok.exfs,ok.funs,ok.frf⟩
theorem tN(I:Inv X pins σ H s)(hp:X.pn=[]):Inv (kK X pins E) [] σ H s:=
 ⟨vJ I.ok,I.os,I.bare,I.base,I.loc,I.cell,I.free,I.freeC,fun p q=>I.pin p (by rw[hp];rw[List.append_nil] at q;exact q),I.hok,I.len⟩
theorem uc(ok:(kK X pn E).Ok):X.Ok:=⟨ok.mod,ok.kind,ok.glob,ok.blt,ok.above,ok.inj,ok.has,ok.cab,ok.hd,ok.frames,ok.stk,ok.exf,ok.bs,ok.bsz,ok.noex,ok.exfs,ok.funs,ok.frf⟩
theorem d5{pX:List (Addr×Obj)}(I:Inv (kK X pins E) pX σ H s)(hp:X.pn=[]):Inv X pins σ H s:=
 ⟨uc I.ok,I.os,I.bare,I.base,I.loc,I.cell,I.free,I.freeC,fun p q=>I.pin p (by rw[hp] at q;exact List.mem_append_left _ q),I.hok,I.len⟩
theorem fQ(I:Inv X pins σ H s):Inv (gw X ea E) pins σ H s:=
 ⟨⟨I.ok.mod,I.ok.kind,I.ok.glob,I.ok.blt,I.ok.above,I.ok.inj,I.ok.has,I.ok.cab,fun z=>(by cases z),I.ok.frames,I.ok.stk,I.ok.exf,I.ok.bs,I.ok.bsz,I.ok.noex,I.ok.exfs,I.ok.funs,I.ok.frf⟩,I.os,I.bare,I.base,I.loc,I.cell,I.free,I.freeC,I.pin,I.hok,I.len⟩
theorem nH(I:Inv (gw X ea E) pins σ H s)(hd:X.calm=true→X.A.handled=none)(uH:X.A.frames=some X.stack):Inv X pins σ H s:=
 ⟨⟨I.ok.mod,I.ok.kind,I.ok.glob,I.ok.blt,I.ok.above,I.ok.inj,I.ok.has,I.ok.cab,hd,uH,I.ok.stk,I.ok.exf,I.ok.bs,I.ok.bsz,I.ok.noex,I.ok.exfs,I.ok.funs,I.ok.frf⟩,I.os,I.bare,I.base,I.loc,I.cell,I.free,I.freeC,I.pin,I.hok,I.len⟩
theorem qR{h':Heap}{m':Str→Option Value}{tk:Nat}(I:Inv X pins σ H s)(so:Heap.SameBut X.env.locals s.heap h')(hn:h'.Ns X.env.locals m'):Inv X pins (σ.map fun _=>none) H {s with heap:=h',toks:=tk}:=by
 have AX:∀b o,X.s₀.heap.get? b=some o→b≠X.env.locals:=fun b o e=>Nat.ne_of_lt (Nat.lt_of_lt_of_le (Heap.lt_size e) I.ok.above)
 refine⟨I.ok,I.os,I.bare,⟨fun b o e n hb hx=>?_,fun b o e n hb hx=>?_,I.base.free,fun b o e hx=>?_,I.base.tups,I.base.frzs,I.base.tbls⟩,⟨m',hn,fun i x v h1 h2 h3=>?_⟩,fun x c e=>?_,I.free,I.freeC,fun p hp=>?_,p8 I.hok so I.free,by rw[List.length_map];exact I.len⟩
 ·exact(so.2 b (AX b o e)).trans (I.base.keep b o e n hb hx)
 ·obtain⟨sl,q⟩:=I.base.slot b o e n hb hx
  exact⟨sl,(so.2 b (AX b o e)).trans q⟩
 ·obtain⟨o',q⟩:=I.base.there b o e hx
  exact⟨o',(so.2 b (AX b o e)).trans q⟩
 ·rw[List.getElem?_map] at h2
  cases q:σ[i]? with
  |none=>rw[q] at h2;cases h2
  |some z=>rw[q] at h2;cases h2
 ·obtain⟨v,q⟩:=I.cell x c e
  exact⟨v,q.sameBut so (I.cne x c e)⟩
 ·obtain⟨e,n,ne,nf,d⟩:=I.pin p hp
  exact⟨(so.2 p.1 ne).trans e,n,ne,nf,d⟩
theorem tO{a:Addr}{o:HO}(I:Inv X pins σ H s)(hn:H a=none)(h0:X.s₀.heap.get? a=none)(hl:a≠X.env.locals)(hc:∀x c,X.env.cells.lookup x=some c→c≠a)(hp:∀p∈X.pn++pins,p.1≠a)(ho:ObjOk X.prog X.w (upd H a o) s.heap a o):
 Inv X pins σ (upd H a o) s:=by
 have ne:∀b u,H b=some u→b≠a:=fun b u e=>bC e hn
 have GW:∀b u,X.s₀.heap.get? b=some u→b≠a:=fun b u e z=>by rw[z,h0] at e;cases e
 refine⟨I.ok,I.os,I.bare,⟨I.base.keep,I.base.slot,fun b u e n hx=>?_,I.base.there,fun b xs e=>?_,fun b u xs e=>?_,fun b ps e=>?_⟩,I.loc,I.cell,?_,fun x c e=>?_,fun p q=>?_,fun b u e=>?_,I.len⟩
 ·rw[ax (GW b u e)];exact I.base.free b u e n hx
 ·have q:=I.base.tups b xs e
  rw[ax (ne b _ q)];exact q
 ·have q:=I.base.frzs b u xs e
  rw[ax (ne b _ q)];exact q
 ·obtain⟨more,q⟩:=I.base.tbls b ps e
  exact⟨more,by rw[ax (ne b _ q)];exact q⟩
 ·rw[ax (Ne.symm hl)];exact I.free
 ·rw[ax (hc x c e)];exact I.freeC x c e
 ·obtain⟨e,n,r1,r2,d⟩:=I.pin p q
  exact⟨e,by rw[ax (hp p q)];exact n,r1,r2,d⟩
 ·by_cases hb:b=a
  ·subst hb;rw[aA] at e;cases e;exact ho
  ·rw[ax hb] at e
   exact(I.hok b u e).stay (fun _ _ _ q=>q) (fun c q=>by rw[ax (ne c _ q)];exact q) fun c xs q=>by rw[ax (ne c _ q)];exact q
end
section
variable{P:Program}{w:World}{K:W.Frag}{mg:Str→Option Value}{base:Heap}{N:List Str}{qual:Str}{scope:Scope}{f:Addr}{cd:Value}{A:Around}{outer:List Env}{s₀:Shared}{H₀:Hp}{E:XK}{cv:Nat→Value}
theorem yn{Xw:Nat→Hp→Prop}{body wL:List Stmt}{b₀:Stmt}{x n:Str}{np BH pos:Pos}{i:Nat}{Cp:Addr}{τb τh:DS}{hd:Nat→M D}{cA:Nat→Addr}
 (Bv:∀k,cv k= .ref (cA k))(hN:(aL (b6 P w cv) P w K mg base N qual scope f cd A outer s₀ H₀ E).N.Nodup)(hi:(aL (b6 P w cv) P w K mg base N qual scope f cd A outer s₀ H₀ E).N[i]? =some n)(qO:(aL (b6 P w cv) P w K mg base N qual scope f cd A outer s₀ H₀ E).env.scope.names.lookup n=some .local)(hg:Gl (aL (b6 P w cv) P w K mg base N qual scope f cd A outer s₀ H₀ E) x)(hm:mg x=some (.ref Cp))(hex:∀k,PySem.W.exmOne K (cv k) (.ref Cp)=some true)
 (hb:∀(pn:List (Addr×Obj)) (Ec:Value→Shared→Prop) (Xw':Nat→Hp→Prop),Passes (b6 P w cv) (kK (aL (b6 P w cv) P w K mg base N qual scope f cd A outer s₀ H₀ E) pn Ec) (EX cv Xw')→PSDs (kK (aL (b6 P w cv) P w K mg base N qual scope f cd A outer s₀ H₀ E) pn Ec) Xw' body τb)
 (hs:∀ea,PSDs (gw (aL (b6 P w cv) P w K mg base N qual scope f cd A outer s₀ H₀ E) ea fun _ _=>False) (fun _ _=>False) (b₀::wL) τh)(hh:∀(k:Nat) (ρ:aY),ρ.length=N.length→ρ[i]? =some (some (.fz (.exc (cA k))))→τh ρ=(hd k>>=fun d=>M.ret (.rt d)))
 (ig:(x==("__debug__":Str))=false:=by decide):
 fx (aL (b6 P w cv) P w K mg base N qual scope f cd A outer s₀ H₀ E) Xw (.Try body [.ExceptHandler (some (.Name x np)) (some n) (b₀::wL) BH] [] [] pos) (wF τb fun k=>noex (hd k)):=fun G₀ J₀ pins s σ H D I ⟨F,ρ,S,wq⟩=>by
 have nG:eB (aL (b6 P w cv) P w K mg base N qual scope f cd A outer s₀ H₀ E).stack=s₀.heap.objs.size::eB outer:=rfl
 have pass:Passes (b6 P w cv) (kK (aL (b6 P w cv) P w K mg base N qual scope f cd A outer s₀ H₀ E) pins fun e s₁=>wpAny (model P w) (aL (b6 P w cv) P w K mg base N qual scope f cd A outer s₀ H₀ E).A (noteFrame e (aL (b6 P w cv) P w K mg base N qual scope f cd A outer s₀ H₀ E).env) (fun _ s₂=>wpAny (model P w) (aL (b6 P w cv) P w K mg base N qual scope f cd A outer s₀ H₀ E).A (setFlight e none) (fun _ s₃=>wpAny (model P w) (aL (b6 P w cv) P w K mg base N qual scope f cd A outer s₀ H₀ E).A (handleBy e (aL (b6 P w cv) P w K mg base N qual scope f cd A outer s₀ H₀ E).env [.ExceptHandler (some (.Name x np)) (some n) (b₀::wL) BH]) (SP (aL (b6 P w cv) P w K mg base N qual scope f cd A outer s₀ H₀ E) pins D) (aL (b6 P w cv) P w K mg base N qual scope f cd A outer s₀ H₀ E).xe s₃) (aL (b6 P w cv) P w K mg base N qual scope f cd A outer s₀ H₀ E).xe s₂) (aL (b6 P w cv) P w K mg base N qual scope f cd A outer s₀ H₀ E).xe s₁)
  (EX cv fun k H'=>∃F',Ext G₀ J₀ F' H'∧WPS K Xw G₀ J₀ (noex (hd k)>>=fun d=>M.ret (.rt d)) D):=by
  intro pX σ' H1 s1 e s' I1 ⟨ea,nn,a0,B,H',he,tM,Gk,hok,un,tI,hB,m,Gv,F',ext',w'⟩
  subst he
  have uH:∀b∈eB (aL (b6 P w cv) P w K mg base N qual scope f cd A outer s₀ H₀ E).stack,H' b=none:=fun b hb=>by
   obtain⟨_,o,ho,_⟩:=I1.stack.mem hb
   exact un.free b o ho (I1.stkFree b hb) (by simp)
  have Dg:ea∉eB (aL (b6 P w cv) P w K mg base N qual scope f cd A outer s₀ H₀ E).stack:=fun hb=>by
   obtain⟨_,o,ho,xy⟩:=tI.2.2.1.mem hb
   obtain⟨oe,vs,q1,_,q2,_⟩:=tI.first
   rw[q1] at ho
   cases ho
   exact xy vs q2
  have EV:B.get? ea=none:=tI.2.1
  have vh:s1.heap.get? ea=none:=by
   cases q:s1.heap.get? ea with
   |none=>rfl
   |some o=>
    obtain⟨ob,h1,_⟩:=tI.there
    have:=hB ea ob h1 (.inr (by rw[q];rfl)) Dg
    rw[EV] at this
    cases this
  have E3:H' ea=none:=by
   cases q:H' ea with
   |none=>rfl
   |some u=>
    obtain⟨ob,h1,_⟩:=tI.there
    have:=hB ea ob h1 (.inl (by rw[q];exact fun z=>nomatch z)) Dg
    rw[EV] at this
    cases this
  have yT:∀h₅,B.StaysIn h₅→s'.heap.UpToSlots h₅→Inv (aL (b6 P w cv) P w K mg base N qual scope f cd A outer s₀ H₀ E) pins σ' H' {s' with heap:=h₅}:=fun h₅ st ups=>by
   have il:∀b o,s'.heap.get? b=some o→b∉eB (aL (b6 P w cv) P w K mg base N qual scope f cd A outer s₀ H₀ E).stack→(H' b≠none∨(s1.heap.get? b).isSome=true)→h₅.get? b=some o:=fun b o e hb hc=>st b o (hB b o e hc hb)
   have G9:Un (eB (aL (b6 P w cv) P w K mg base N qual scope f cd A outer s₀ H₀ E).stack) [] H1 H' s1.heap h₅:=oI un (fun b o e hb hc=>il b o e hb hc) (fun b o e hb=>by
    obtain⟨_,o',ij,xy⟩:=tI.2.2.1.mem hb
    rw[e] at ij
    cases ij
    exact ups b o e xy)
   have DR:HOk P w H' h₅:=kJ hok uH fun b o e hb hc=>il b o e hb (.inl hc)
   exact d5 (I1.call' (s':={s' with heap:=h₅}) (ch:=[]) tM G9 DR Gk (fun b hb=>absurd hb (by simp))) rfl
  show wpAny (model P w) (aL (b6 P w cv) P w K mg base N qual scope f cd A outer s₀ H₀ E).A (noteFrame (.ref ea) (aL (b6 P w cv) P w K mg base N qual scope f cd A outer s₀ H₀ E).env) _ _ s'
  refine wpAny_looks_onW (base:=B) (outer:=outer) (L:=s₀.heap.objs.size) I1.ok.frames rfl tI fun h₄ By Cs=>?_
  refine wpAny_landsW By fun h₅ zl Ct=>?_
  have J5:=yT h₅ zl.1 (Cs.trans Ct)
  have M5:Inv (gw (aL (b6 P w cv) P w K mg base N qual scope f cd A outer s₀ H₀ E) ea fun _ _=>False) pins σ' H' {s' with heap:=h₅}:=fQ J5
  refine wpAny_handleBy_cons (codeAny_handlers_test (iq M5 hg hm ?_ ig)) (by intro q;cases q)
  have LT:Looks (model P w) h₅ (typeOf (.ref ea)) (cv nn):=by
   obtain⟨ob,h1,h2⟩:=zl.there
   exact h2▸(Looks.ld h1).andThen .now
  refine(PySem.W.exm_one M5.kIn LT (hex nn)).here ?_
  refine codeAny_handlers_suite_as ?_
  refine lands_againW zl fun h₆ Bm EJ=>?_
  have J6:=yT h₆ Bm.1 ((Cs.trans Ct).trans EJ)
  have M6:Inv (gw (aL (b6 P w cv) P w K mg base N qual scope f cd A outer s₀ H₀ E) ea fun _ _=>False) pins σ' H' {s' with heap:=h₆}:=fQ J6
  have t6:ea≠(aL (b6 P w cv) P w K mg base N qual scope f cd A outer s₀ H₀ E).env.locals:=fun z=>Dg (by rw[nG,z];exact List.mem_cons_self)
  have yW:∀y c,(aL (b6 P w cv) P w K mg base N qual scope f cd A outer s₀ H₀ E).env.cells.lookup y=some c→c≠ea:=fun y c q z=>by
   obtain⟨v,o,ho,_⟩:=I1.cell y c q
   rw[z,vh] at ho
   cases ho
  refine jl J6 hN hi (.inl qO) (v:= .ref ea) rfl (fun s7 I7 ⟨a,sb,ha⟩=>?_) (.inr qO)
  have Bx:rT s7.heap ea (cA nn):=by
   obtain⟨ob,h1,h2⟩:=Bm.there
   refine⟨ob,(sb.2 ea ?_).trans h1,by rw[h2,Bv]⟩
   rcases ha with z | z
   ·rw[z];exact t6
   ·exact Ne.symm (yW n a z)
  have h0:s₀.heap.get? ea=none:=by
   cases q:s₀.heap.get? ea with
   |none=>rfl
   |some o=>
    obtain⟨o',q'⟩:=I1.base.there ea o q (fun z=>absurd (show ea∈([]:List Addr) from z) (by simp))
    rw[vh] at q'
    cases q'
  have I8:Inv (gw (aL (b6 P w cv) P w K mg base N qual scope f cd A outer s₀ H₀ E) ea fun _ _=>False) pins (σ'.set i (some (.ref ea))) (upd H' ea (y8 ea (cA nn))) s7:=
   tO (fQ I7) E3 h0 t6 yW (fun p q z=>by
    have hp:=I1.pin p (List.mem_append_left _ (show p∈pins from q))
    rw[z,vh] at hp
    cases hp.1) ⟨Bx,(by obtain⟨ox,h1,_⟩:=Bx;exact⟨ox,h1⟩),fun h1 h2 hx k=>nI hx k⟩
  have hlen:σ'.length=N.length:=I1.len
  have AU:i<σ'.length:=by rw[hlen];exact(List.getElem?_eq_some_iff.mp hi).1
  have eL:=Ext.lay (o:=y8 ea (cA nn)) ext'.fh E3
  have hρ:((List.replicate σ'.length none).set i (some (Sl.fz (.exc (cA nn)))))[i]? =some (some (.fz (.exc (cA nn)))):=List.getElem?_set_self (by simpa using AU)
  have only:∀(j:Nat) (sl:Sl),((List.replicate σ'.length (none:Option Sl)).set i (some (Sl.fz (.exc (cA nn)))))[j]? =some (some sl)→j=i∧sl= .fz (.exc (cA nn)):=fun j sl e=>by
   by_cases hj:j=i
   ·subst hj
    rw[hρ] at e
    cases e
    exact⟨rfl,rfl⟩
   ·rw[List.getElem?_set_ne (Ne.symm hj),List.getElem?_replicate] at e
    split at e<;>cases e
  have S8:StOk K G₀ J₀ (upd F' ea (y8 ea (cA nn))) (upd H' ea (y8 ea (cA nn))) (σ'.set i (some (.ref ea))) ((List.replicate σ'.length none).set i (some (.fz (.exc (cA nn))))):=by
   refine⟨ext'.trans eL,⟨eL.fh,fun j sl e=>?_⟩,by simp,fun j c a e=>?_,fun j k c c' a e=>?_⟩
   ·obtain⟨rfl,rfl⟩:=only j sl e
    exact⟨.ref ea,List.getElem?_set_self AU,ea,rfl,aA⟩
   ·obtain⟨_,z⟩:=only j _ e
    cases z
   ·obtain⟨_,z⟩:=only j _ e
    cases z
  have Gd:cA m=cA nn:=by
   have:=Gv
   rw[Bv,Bv] at this
   exact(Value.ref.inj this).symm
  have w8:WPS K (fun _ _=>False) G₀ J₀ (τh ((List.replicate σ'.length none).set i (some (.fz (.exc (cA nn)))))) {nx:=fun _ _=>False,rt:=D.rt}:=by
   rw[hh m _ (by simpa using hlen) (by rw[Gd];exact hρ)]
   rcases(hd m).cs with q | ⟨k,q⟩ | ⟨d,q⟩
   ·rw[q] at w';exact w'.elim
   ·rw[q] at w';exact w'.elim
   ·rw[q] at w'⊢;exact w'
  refine wpAny_mono (hs ea G₀ J₀ pins s7 _ _ {nx:=fun _ _=>False,rt:=D.rt} I8 ⟨_,_,S8,w8⟩) (fun fl s8 q8=>?_) fun _ _ z=>z.elim
  cases fl with
  |next=>obtain⟨_,_,_,z⟩:=q8;exact z.elim
  |brk=>obtain⟨_,_,_,z⟩:=q8;exact z.elim
  |cont=>obtain⟨_,_,_,z⟩:=q8;exact z.elim
  |ret u=>
   obtain⟨v,σ9,H9,I9,rv,q9⟩:=q8
   have I10:Inv (aL (b6 P w cv) P w K mg base N qual scope f cd A outer s₀ H₀ E) pins σ9 H9 s8:=nH I9 J5.ok.hd J5.ok.frames
   obtain⟨mm,CJ,_⟩:=I10.loc
   exact wpAny_nameGoes qO CJ (by rw[show (aL (b6 P w cv) P w K mg base N qual scope f cd A outer s₀ H₀ E).env.scope.kind= .function from I10.ok.kind];rfl) fun h' m' DN so=>⟨v,_,H9,qR I10 so DN,rv,q9⟩
 have wb:WPS K (fun k H'=>∃F',Ext G₀ J₀ F' H'∧WPS K Xw G₀ J₀ (noex (hd k)>>=fun d=>M.ret (.rt d)) D) G₀ J₀ (τb ρ) D:=by
  unfold wF at wq
  match τb ρ,wq with
  |none,wq=>exact wq
  |some (.ok (.nx ρ')),wq=>exact wq
  |some (.ok (.rt d)),wq=>exact wq
  |some (.ex k),wq=>exact fun F' H' e=>⟨F',e,wq⟩
 refine wpAny_Try_except (wpAny_mono (hb pins _ _ pass G₀ J₀ [] s σ H D (tN I rfl) ⟨F,ρ,S,wb⟩) (fun fl s1 q1=>?_) fun _ _ z=>z)
 cases fl with
 |next=>obtain⟨σ1,H1,I1,q⟩:=q1;exact wpAny_execs_nil ⟨σ1,H1,d5 I1 rfl,q⟩
 |brk=>obtain⟨σ1,H1,I1,q⟩:=q1;exact⟨σ1,H1,d5 I1 rfl,q⟩
 |cont=>obtain⟨σ1,H1,I1,q⟩:=q1;exact⟨σ1,H1,d5 I1 rfl,q⟩
 |ret u=>obtain⟨v,σ1,H1,I1,r,q⟩:=q1;exact⟨v,σ1,H1,d5 I1 rfl,r,q⟩
end
end L3
namespace L3
open PySem PySem.Spec L2 SeqAt HT
open PyProof.Rows hiding St
structure RoomH (k:Nat) (A:Around):Prop where
 dp:A.depth+3*k+5<recursionLimit
 un:A.units+16*k+200<cLine
theorem RoomH.deeper{k:Nat}{A:Around}(r:RoomH (k+1) A)(env:Env):RoomH k (A.deeper env):=
 ⟨by have:=r.dp;show A.depth+1+3*k+5<_;omega,by have:=r.un;show A.units+3+16*k+200<_;omega⟩
theorem RoomH.of{k:Nat}{A:Around}(r:Room k A)(v:Option Value):RoomH k (A.mark v):=⟨r.dp,r.un⟩
theorem RoomH.units{k:Nat}{A:Around}(r:RoomH k A):A.units+64<cLine:=by have:=r.un;omega
structure FnOkH (P:Program) (w:World) (K:W.Frag) (mg:Str→Option Value) (base:Heap) (k:Nat) (f:Addr) (fd:FuncData) (ps:List Str) (sp:Sp):Prop where
 len:∀vs H Q E,sp vs H Q E→vs.length=ps.length
 run:∀(A:Around) (outer:List Env) (s:Shared) (H:Hp) (args:Args) (us:List Value) (vs:List V) (Q:VK) (E:XK),RoomH k A→Env0 P w K mg base A outer s H→BindsTo s fd args (ps.zip us)→Vals vs us→sp vs H Q E→
  codeAny (model P w) A (.call (.ref f) args) (CR CV outer P w H s Q E) s
abbrev mv(P:Program)(w:World)(K:W.Frag)(mg:Str→Option Value)(base:Heap)(N:List Str)(qual:Str)(scope:Scope)(f:Addr)(cd:Value)(A:Around)(outer:List Env)(s:Shared)(H:Hp):Cx:=
 {aL CV P w K mg base N qual scope f cd A outer s H E0 with calm:=false,xe:=fun _ _=>False}
theorem qS{P:Program}{w:World}{K:W.Frag}{mg:Str→Option Value}{base:Heap}{N ps:List Str}{qual:Str}{scope:Scope}{f:Addr}{cd:Value}{A:Around}{outer:List Env}{s s1:Shared}{H:Hp}{us:List Value}{vs:List V}
 (S:FnScope N ps scope)(e0:Env0 P w K mg base A outer s H)(hl:vs.length=ps.length)(r:Vals vs us)
 (x:InCallC s s.heap.objs.size (bindL (envOfC qual scope s.heap.objs.size f cd).kindOf (ps.zip us) fun _=>none) (cellsFrom (s.heap.objs.size+1) scope.names []) (bindC (envOfC qual scope s.heap.objs.size f cd).kindOf (ps.zip us) fun _=>none) s1):
 Inv (mv P w K mg base N qual scope f cd A outer s H) [] (L2.start N vs) H s1:=by
 have e1:Env0 P w K mg base {A with handled:=none} outer s H:=⟨e0.frames,e0.mod,e0.bs,e0.bsz,e0.funs,e0.frf,e0.hok,e0.bare⟩
 have J:=mD (CX:=CV) (E:=E0) (A:={A with handled:=none}) S rfl e1 hl r x
 exact⟨⟨J.ok.mod,J.ok.kind,J.ok.glob,J.ok.blt,J.ok.above,J.ok.inj,J.ok.has,J.ok.cab,fun z=>(by cases z),Around.frames_deeper e0.frames,J.ok.stk,J.ok.exf,J.ok.bs,J.ok.bsz,J.ok.noex,J.ok.exfs,J.ok.funs,J.ok.frf⟩,J.os,J.bare,J.base,J.loc,J.cell,J.free,J.freeC,J.pin,J.hok,J.len⟩
theorem zm{P:Program}{w:World}{K:W.Frag}{mg:Str→Option Value}{base:Heap}{k:Nat}{f:Addr}{name qual:Str}{params:Arguments}{body:List Stmt}{scope:Scope}{dV kV doc pm a5 ct oc:Value}{an od:Option Addr}
 {vO:Array (Option Value)}{N ps:List Str}{sp:Sp}(lk:K.lookup f=some ⟨oc,od, .func (PySem.W.fnOf name qual params body scope dV kV doc pm an a5 ct),vO⟩)(qr:PySem.W.codeIn K a5 qual=true)(S:FnScope N ps scope)
 (len:∀vs H Q E,sp vs H Q E→vs.length=ps.length)
 (fO:∀(A:Around) (outer:List Env) (s:Shared) (H:Hp) (vs:List V) (Q:VK) (E:XK),RoomH k (A.deeper (envOfC qual scope s.heap.objs.size f a5))→sp vs H Q E→
  ∃t,PSs (mv P w K mg base N qual scope f a5 A outer s H) body t∧t {nx:=fun _ H'=>Q .non H',rt:=Q} (L2.start N vs) H):
 FnOkH P w K mg base (k+1) f (PySem.W.fnOf name qual params body scope dV kV doc pm an a5 ct) ps sp:=by
 refine⟨len,fun A outer s H args us vs Q E hr e0 hb r qu=>?_⟩
 have hl:=len _ _ _ _ qu
 have KX:K.In s.heap:=e0.mod.kin.keeps fun b o e=>(e0.bs b o e).1
 have lim:s.heap.NoLimit:=e0.mod.nolimit.keeps fun b o e=>(e0.bs b o e).1
 have vf:∀y∈ps.zip us,scope.names.lookup y.1=some .local∨(scope.names.lookup y.1=some .cell∧((cellsFrom (s.heap.objs.size+1) scope.names []).lookup y.1).isSome=true):=fun⟨n,v⟩ hy=>by
  rcases S.par n (List.of_mem_zip hy).1 with q | q
  ·exact .inl q
  ·exact .inr ⟨q,PySem.W.cellsFrom_some _ _ _ (.inl q)⟩
 have Dy:A.depth<recursionLimit:=by have:=hr.dp;omega
 refine codeAny_call_function Dy (KX _ _ lk) rfl S.co S.gen rfl (PySem.W.codeRec_of KX qr) (hb _ _ _ _ ?_)
 refine wpAny_newFunctionEnv_cells S.kind vf fun env he s1 x=>?_
 subst he
 refine⟨lim.keeps x.toInCall.keep,codeAny_func ?_⟩
 obtain⟨t,ht,hq⟩:=fO A outer s H vs Q E (hr.deeper _) qu
 have I:Inv (mv P w K mg base N qual scope f a5 A outer s H) [] (L2.start N vs) H s1:=qS S e0 hl r x
 refine wpAny_mono (ht [] s1 (L2.start N vs) H _ I hq) (fun fl s' hs=>?_) fun e s' hs=>hs.elim
 have fin:∀{σ':St}{H':Hp}{v:V}{u:Value},Inv (mv P w K mg base N qual scope f a5 A outer s H) [] σ' H' s'→RelV v u→Q v H'→CE outer P w H s Q u s':=
  fun {σ' H' v u} J rv q=>⟨v,H',J.os,J.bare,J.base,J.hok,rv,q⟩
 cases fl with
 |ret u=>
  obtain⟨v,σ',H',J,rv,q⟩:=hs
  exact fin J rv q
 |next=>
  obtain⟨σ',H',J,q⟩:=hs
  exact fin (v:=V.non) (u:=Value.none) J rfl q
 |brk=>
  obtain⟨_,_,_,q⟩:=hs
  exact False.elim q
 |cont=>
  obtain⟨_,_,_,q⟩:=hs
  exact False.elim q
theorem wJ{K:W.Frag}{F H:Hp}{N:List Str}{ds:List D}{vs:List V}(fh:Same F H)(hd:DenL K F ds vs):StOk K F H F H (L2.start N vs) (ds.map (fun d=>some (Sl.fz d))++List.replicate (N.length - ds.length) none):=by
 have hlen:=hd.len
 have get:∀(i:Nat) (sl:Sl),(ds.map (fun d=>some (Sl.fz d))++List.replicate (N.length - ds.length) none)[i]? =some (some sl)→∃d,ds[i]? =some d∧sl= .fz d:=fun i sl e=>by
  by_cases hi:i<ds.length
  ·rw[List.getElem?_append_left (by simpa using hi),List.getElem?_map] at e
   cases q:ds[i]? with
   |none=>rw[q] at e;cases e
   |some d=>rw[q] at e;cases e;exact⟨d,rfl,rfl⟩
  ·rw[List.getElem?_append_right (by simpa using hi),List.getElem?_replicate] at e
   split at e<;>cases e
 refine⟨Ext.refl fh,⟨fh,fun i sl e=>?_⟩,?_,fun i c a e=>?_,fun i j c c' a e=>?_⟩
 ·obtain⟨d,q,rfl⟩:=get i sl e
  obtain⟨v,e1,e2⟩:=hd.get q
  have hi:=(List.getElem?_eq_some_iff.mp q).1
  refine⟨v,?_,e2⟩
  unfold L2.start
  rw[List.getElem?_append_left (by simp;omega),List.getElem?_map,e1]
  rfl
 ·unfold L2.start
  simp[hlen]
 ·obtain⟨d,_,z⟩:=get i _ e
  cases z
 ·obtain⟨d,_,z⟩:=get i _ e
  cases z
section
variable{P:Program}{w:World}{K:W.Frag}{mg:Str→Option Value}{base:Heap}{cv:Nat→Value}
theorem Bo{x qual:Str}{st:Stmt}{f:Addr}{fd:FuncData}{N ps:List Str}{k:Nat}{τ:DS}(Fn:Fun K x qual st f fd)(S:FnScope N ps (ag st))
 (fO:∀(a5:Value) (A:Around) (outer:List Env) (s:Shared) (H:Hp),RoomH k (A.deeper (envOfC qual (ag st) s.heap.objs.size f a5))→
  PSDs (mv P w K mg base N qual (ag st) f a5 A outer s H) (fun _ _=>False) (aK st) τ):FnOkH P w K mg base (k+1) f fd ps (xa K cv ps.length fun ds=>noex (bE N.length τ ds)):=by
 obtain⟨oc,od,kV,doc,pm,an,a5,ct,vO,rfl,lk,qr⟩:=Fn.ex
 refine zm lk qr S (fun vs H Q E ⟨_,_,_,_,hl,_⟩=>hl) fun A outer s H vs Q E hr qu=>?_
 obtain⟨F,ds,fh,hd,hl,hw⟩:=qu
 refine⟨_,fO a5 A outer s H hr F H,F,_,wJ fh hd,?_⟩
 have hw:WP K (fun n H'=>E (cv n) none H') F H (noex (τ (ds.map (fun d=>some (Sl.fz d))++List.replicate (N.length - ds.length) none)>>=fun o=>match o with | .nx _=>M.ret .non | .rt d=>M.ret d)) Q:=hw
 rcases(τ (ds.map (fun d=>some (Sl.fz d))++List.replicate (N.length - ds.length) none)).cs with e | ⟨n,e⟩ | ⟨o,e⟩
 ·rw[e] at hw;exact hw.elim
 ·rw[e] at hw;exact hw.elim
 ·rw[e] at hw⊢
  cases o with
  |nx ρ'=>exact fun σ' F' H' s'=>hw .non H' F' s'.ext rfl
  |rt d=>exact fun v F' H' e' q=>hw v H' F' e' q
end
section
variable{X:Cx}{Xw:Nat→Hp→Prop}{cv:Nat→Value}{k m:Nat}{f:Addr}{fd:FuncData}{ps:List Str}{g:List D→M D}{x:Str}{p pos:Pos}{e:Expr}{es:List Expr}{δs:DA}
theorem vQ(F:FnOkH X.prog X.w X.K X.mg X.base k f fd ps (xa X.K cv m g))(hr:RoomH k X.A)(hg:Gl X x)(hm:X.mg x=some (.ref f))(hk:PySem.W.keepIn X.K (.ref f)=true)(hb:Binds X.K fd ps [])
 (ha:j0 X Xw (e::es) δs)(ig:(x==("__debug__":Str))=false:=by decide)(he:starEach (e::es) X.env=(false,eval e X.env)::starEach es X.env:=by rfl)(ke:(backTo pos (starEach es X.env)).any (·.1)=false:=by rfl):
 PD X Xw (.Call (.Name x p) (e::es) [] pos) (fun ρ=>δs ρ>>=fun ds=>if ds.length=m then noex (g ds) else M.stuck):=by
 intro pins s σ H Q I ⟨Fz,ρ,S,wq⟩
 refine wpAny_Call_Name_kw (iq I hg hm ?_ ig)
 refine PySem.W.callWith_K (h₀:=X.base) I.ok.mod.kin hk (bV (ha pos pins s σ H _ I ⟨Fz,ρ,S,WP.bindL wq⟩) fun us s1 ⟨vs,H1,I1,r,q⟩=>⟨I1.kIn,?_⟩) he ke
 obtain⟨F1,ds,e1,q1,w1⟩:=q
 split at w1
 ·rename_i DK
  have qu:xa X.K cv m g vs H1 Q E0:=⟨F1,ds,e1.fh,q1,by rw[←q1.len];exact DK,by
   rcases(g ds).cs with q | ⟨n,q⟩ | ⟨d,q⟩
   ·rw[q] at w1;exact w1.elim
   ·rw[q] at w1;exact w1.elim
   ·rw[q] at w1⊢;exact w1⟩
  have Gu:us.length=ps.length:=by rw[←r.length];exact F.len _ _ _ _ qu
  refine wpAny_call (codeAny_mono (F.run X.A X.stack s1 H1 ⟨us,[]⟩ us vs Q E0 hr I1.env0 (by have:=hb s1 us I1.kIn (by rw[List.append_nil];exact Gu);rwa [List.append_nil] at this) r qu) fun res s' hq=>?_)
  cases res with
  |error e=>exact hq.elim
  |ok fl=>
   cases fl with
   |ret u=>exact I1.after hq
   |next=>exact False.elim hq
   |brk=>exact False.elim hq
   |cont=>exact False.elim hq
 ·exact w1.elim
end
def se(N:List Str)(osc scope:Scope)(tn:List Str):Bool:=
 decide (scope.kind= .function)&&scope.names.all (fun y=>decide (y.2≠ .cell))&&scope.names.all (fun y=>decide (y.2= .local→scope.names.lookup y.1=some .local))&&
 scope.names.all (fun y=>decide (y.2= .free→(osc.names.lookup y.1=some .cell∨osc.names.lookup y.1=some .free)))&&
 ((bY tn N).zip N).all (fun p=>decide (scope.names.lookup p.1=none∨(p.1=p.2∧scope.names.lookup p.1=some .free)))
theorem bj{X:Cx}{N:List Str}{osc scope:Scope}{tn:List Str}(hN:X.N=N)(ho:X.env.scope=osc)(h:se N osc scope tn=true):CompSc X scope tn:=by
 unfold se at h
 simp only[Bool.and_eq_true,List.all_eq_true,decide_eq_true_eq] at h
 obtain⟨⟨⟨⟨h1,h2⟩,h3⟩,h4⟩,h5⟩:=h
 refine⟨h1,h2,h3,fun y hy hf=>?_,?_⟩
 ·have:=h4 y hy hf
  rw[←ho] at this
  exact this
 ·rw[hN]
  exact h5
theorem b0{X:Cx}{x:Str}{px:Pos}{σ:St}(hN:X.N.Nodup)(h0:X.N[0]? =some x)(qO:X.env.scope.names.lookup x=some .local):uJ X (.Name x px) 0 σ:=fun pins s σ' F H d ts v u I fh hd rv q e=>by
 have e:M.ret [d]=M.ret ts:=e
 have e:=gB e
 subst e
 refine wpAny_assign_Name (qe I hN h0 (.inl qO) rv (fun s' I'=>⟨[v],?_, .cons q .nil⟩) (.inr qO))
 have hl:0<σ'.length:=by rw[I.len];exact(List.getElem?_eq_some_iff.mp h0).1
 have:σ'.set 0 (some v)=[v].map some++σ:=by
  cases σ' with
  |nil=>simp at hl
  |cons a r=>
   have hd:r=σ:=by simpa using hd
   subst hd
   rfl
 rw[←this]
 exact I'
theorem d8{P:Program}{w:World}{cv:Nat→Value}{X:Cx}:Passes (b6 P w cv) X (EX cv fun _ _=>False):=fun _ _ _ _ _ _ _ ⟨_,_,_,_,_,_,_,_,_,_,_,_,_,_,z⟩=>z.elim
def bD(K:W.Frag)(mg:Str→Option Value)(x:Str)(st:Stmt)(f:Addr):Prop:=mg x=some (.ref f)∧∃fd,Fun K x x st f fd
def au(P:Program)(w:World)(K:W.Frag)(mg:Str→Option Value)(base:Heap)(cv:Nat→Value)(k:Nat)(x:Str)(m:Nat)(g:List D→M D):Prop:=
 ∃f fd ps,mg x=some (.ref f)∧PySem.W.keepIn K (.ref f)=true∧Binds K fd ps []∧FnOk P w K mg base (b6 P w cv) k f fd ps (xa K cv m g)
section
variable{X:Cx}{Xw:Nat→Hp→Prop}{cv:Nat→Value}{k m:Nat}{g:List D→M D}{x:Str}{p pos:Pos}{e:Expr}{es:List Expr}{δs:DA}
def av(m:Nat)(g:List D→M D)(δs:DA):DE:=fun ρ=>δs ρ>>=fun ds=>if ds.length=m then g ds else M.stuck
theorem aZ(F:au X.prog X.w X.K X.mg X.base cv k x m g)(hr:Room k X.A)(hg:Gl X x)(hx:Passes (b6 X.prog X.w cv) X (EX cv Xw))
 (ha:j0 X Xw (e::es) δs)(hl:(e::es).length=m)(ig:(x==("__debug__":Str))=false:=by decide)(he:starEach (e::es) X.env=(false,eval e X.env)::starEach es X.env:=by rfl)(ke:(backTo pos (starEach es X.env)).any (·.1)=false:=by rfl):
 PD X Xw (.Call (.Name x p) (e::es) [] pos) (av m g δs):=by
 obtain⟨f,fd,ps,h1,h2,h3,h4⟩:=F
 exact xZ h4 hr hg h1 h2 h3 hx ha hl ig he ke
end
theorem aB{P:Program}{w:World}{K:W.Frag}{mg:Str→Option Value}{base:Heap}{cv:Nat→Value}{k:Nat}{x:Str}{st:Stmt}{f:Addr}{N ps:List Str}{τ:DS}(T:bD K mg x st f)(S:FnScope N ps (ag st))
 (Du:∀(kV doc pm:Value) (an:Option Addr) (a5 ct:Value) (us:List Value),us.length=ps.length→bindArgs (PySem.W.fnOf x x (dm st) (aK st) (ag st) .none kV doc pm an a5 ct) ⟨us,[]⟩=pure (ps.zip us))
 (fO:∀(a5:Value) (A:Around) (outer:List Env) (s:Shared) (H:Hp) (E:XK),Room k (A.deeper (envOfC x (ag st) s.heap.objs.size f a5))→
  PSDs (aL (b6 P w cv) P w K mg base N x (ag st) f a5 A outer s H E) (fun n H'=>E (cv n) none H') (aK st) τ):au P w K mg base cv (k+1) x ps.length (bE N.length τ):=by
 obtain⟨h1,fd,Fn⟩:=T
 exact⟨f,fd,ps,h1,Fn.kp,Fn.binds Du,Bn Fn S fO⟩
section
variable{X:Cx}{Xw:Nat→Hp→Prop}{a e:Expr}{δ:DE}{pos:Pos}
def zY:D→M D
 | .int i=>M.ret (.int (-i))
 |_=>M.stuck
theorem vT(ha:PD X Xw a δ):PD X Xw (.UnaryOp .USub a pos) (d1 zY δ):=PE.weak (B1 AM ha) fun σ H Q ⟨F,ρ,s,w⟩=>by
 refine⟨F,ρ,s,WP.mono (WP.bind w) fun v H1 ⟨F1,d,e1,q,w1⟩=>?_⟩
 cases d with
 |int i=>
  have q:v= .int i:=q
  subst q
  exact⟨i,rfl,WP.now w1 e1.fh rfl⟩
 |_=>exact w1.elim
end
section
variable{X:Cx}{Xw:Nat→Hp→Prop}{pos:Pos}
theorem sL{x z:Str}(hg:Gl X x)(h:∃t,X.mg x=some (.str z t))(hz:z.length≤lim)(ig:(x==("__debug__":Str))=false:=by decide):PD X Xw (.Name x pos) (dC (.str z)):=by
 obtain⟨t,h⟩:=h
 exact n0 (v:= .str z) hg h ⟨t,rfl⟩ (fun _=>⟨rfl,hz⟩) ig
theorem sI{x:Str}{i:Int}(hg:Gl X x)(h:∃t,X.mg x=some (.int i t))(ig:(x==("__debug__":Str))=false:=by decide):PD X Xw (.Name x pos) (dC (.int i)):=by
 obtain⟨t,h⟩:=h
 exact n0 (v:= .int i) hg h ⟨t,rfl⟩ (fun _=>rfl) ig
theorem nX{x:Str}{a:Addr}(hg:Gl X x)(h:X.mg x=some (.ref a))(ig:(x==("__debug__":Str))=false:=by decide):PD X Xw (.Name x pos) (dC (.raw (.ref a))):=
 n0 (v:= .ref a) hg h rfl (fun _=>rfl) ig
end
def Ep(sc osc:Scope):Scope:={sc with names:=sc.names.map fun(n,k)=>if (k== .free&&osc.kind== .function&&osc.names.lookup n==some .cell) then(n, .cell) else(n,k)}
def j9(P:Program)(w:World)(K:W.Frag)(mg:Str→Option Value)(base:Heap)(cv:Nat→Value)(k:Nat)(x:Str)(m:Nat)(g:List D→M D):Prop:=
 ∃f fd ps,mg x=some (.ref f)∧PySem.W.keepIn K (.ref f)=true∧Binds K fd ps []∧FnOkH P w K mg base k f fd ps (xa K cv m fun ds=>noex (g ds))
def uP(m:Nat)(g:List D→M D)(δs:DA):DE:=fun ρ=>δs ρ>>=fun ds=>if ds.length=m then noex (noex (g ds)) else M.stuck
theorem xi{X:Cx}{Xw:Nat→Hp→Prop}{cv:Nat→Value}{k m:Nat}{g:List D→M D}{x:Str}{p pos:Pos}{e:Expr}{es:List Expr}{δs:DA}(F:j9 X.prog X.w X.K X.mg X.base cv k x m g)(hr:RoomH k X.A)(hg:Gl X x)
 (ha:j0 X Xw (e::es) δs)(ig:(x==("__debug__":Str))=false:=by decide)(he:starEach (e::es) X.env=(false,eval e X.env)::starEach es X.env:=by rfl)(ke:(backTo pos (starEach es X.env)).any (·.1)=false:=by rfl):
 PD X Xw (.Call (.Name x p) (e::es) [] pos) (uP m g δs):=by
 obtain⟨f,fd,ps,h1,h2,h3,h4⟩:=F
 exact vQ h4 hr hg h1 h2 h3 ha ig he ke
theorem qD{P:Program}{w:World}{K:W.Frag}{mg:Str→Option Value}{base:Heap}{cv:Nat→Value}{k:Nat}{x:Str}{st:Stmt}{f:Addr}{N ps:List Str}{τ:DS}(T:bD K mg x st f)(S:FnScope N ps (ag st))
 (Du:∀(kV doc pm:Value) (an:Option Addr) (a5 ct:Value) (us:List Value),us.length=ps.length→bindArgs (PySem.W.fnOf x x (dm st) (aK st) (ag st) .none kV doc pm an a5 ct) ⟨us,[]⟩=pure (ps.zip us))
 (fO:∀(a5:Value) (A:Around) (outer:List Env) (s:Shared) (H:Hp),RoomH k (A.deeper (envOfC x (ag st) s.heap.objs.size f a5))→
  PSDs (mv P w K mg base N x (ag st) f a5 A outer s H) (fun _ _=>False) (aK st) τ):j9 P w K mg base cv (k+1) x ps.length (bE N.length τ):=by
 obtain⟨h1,fd,Fn⟩:=T
 exact⟨f,fd,ps,h1,Fn.kp,Fn.binds Du,Bo Fn S fO⟩
structure Box (p:Prop):Prop where
 out:p
section
variable{X:Cx}{Xw:Nat→Hp→Prop}{a:Expr}{δa:DE}{pos:Pos}
theorem cV{st:Stmt}{rest:List Stmt}{τ τ':DS}(h1:Box (fx X Xw st τ))(h2:Box (PSDs X Xw rest τ')):Box (PSDs X Xw (st::rest) (aI τ τ')):=⟨aw h1.out h2.out⟩
theorem zd{st:Stmt}{τ:DS}(h1:Box (fx X Xw st τ)):Box (PSDs X Xw [st] τ):=⟨ar h1.out⟩
end
theorem Cu{l:PySem.W.OpenLaw}{n k:Nat}{q:Program}{loose:List Str}{XP:(Str→Option Value)→Heap→Prop}{YP:World→Heap→Prop}{d:DefRec}{K:Params→W.Frag}{x:Str}{g:List D→M D}
 (hn:l.most=some n)(BF:n≤lim)(Bw:d.params.defaults=[])(hr:Room k callerA)
 (hY:∀(w:World) (h:Heap),YP w h→(K w.params).In h)(hg:∀ns:List Int,ns.length≤n→g [.scr ns]=M.ret (.bl true))
 (F:∀(w:World) (mg:Str→Option Value) (fa:Addr) (h:Heap),(K w.params).In h→h.Ns mainGlobals mg→mg d.name=some (.ref fa)→
  ∃(cv:Nat→Value) (fd:FuncData),(∀(s:Shared) (u:Value),BindsTo s fd ⟨[u],[]⟩ [(x,u)])∧
   ∀base:Heap,(K w.params).In base→base.Ns mainGlobals mg→FnOk l.prog w (K w.params) mg base (b6 l.prog w cv) k fa fd [x] (xa (K w.params) cv 1 g)):
 PySem.W.WalkO q loose XP YP l.row.toRowW d [] (fun f vs=>PySem.call f vs):=by
 refine Att.attach_call hn Bw fun w s₀ s₁ mg mb fa o pm cd doc a vs ns G Y ho hd qr zC vi hints hlen Gm=>?_
 have KX:=hY w _ Y
 obtain⟨cv,fd,hb,hF⟩:=F w mg fa _ KX G.T.g zC
 refine pB KX G.T.g G.T.b G.T.builtins G.T.nolimit Gm vi hints (Nat.le_trans hlen (Nat.le_trans BF (Nat.le_of_lt cJ))) hr hF hb (fun H hO hS=>?_) fun H e s' z=>?_
 ·refine⟨H,[.scr ns],fun _ _ e=>e,⟨_,_,rfl,⟨a,rfl,hS,Nat.le_trans hlen BF⟩,rfl⟩,rfl,?_⟩
  rw[hg ns hlen]
  exact fun v H' F' e q=>q
 ·obtain⟨_,_,_,_,_,_,_,_,_,_,_,_,_,_,y⟩:=z
theorem rq{K:W.Frag}{h:Heap}{mg:Str→Option Value}{x:Str}{C:Addr}{ms:List Value}{id:String}(hK:K.In h)(hG:h.Ns mainGlobals mg)(at':PySem.W.nsIn K mainGlobals x=some (some (.ref C)))
 (qq:PySem.W.excIn K C ms id=true):OwnCls x C ms id mg h:=OwnCls.mk (PySem.W.mg_of hK hG at')<|by
 revert qq
 unfold PySem.W.excIn
 split<;>intro qq
 rotate_left
 ·exact Bool.noConfusion qq
 rename_i Bh Az Fs zo
 split at qq
 rotate_left
 ·exact Bool.noConfusion qq
 rename_i C₁ Ea v0 v1 v2 v3 GS v5 em es
 rw[Bool.and_eq_true,Bool.and_eq_true,Bool.and_eq_true,Bool.and_eq_true,Bool.and_eq_true] at qq
 rcases qq with⟨⟨⟨⟨⟨q1,q2⟩,q3⟩,q4⟩,q5⟩,q6⟩
 have q1:=eq_of_beq q1
 have q2:=eq_of_beq q2
 have q6:=eq_of_beq q6
 have q3:Az.hasDel=false:=by
  cases z:Az.hasDel
  ·rfl
  ·rw[z] at q3;cases q3
 subst q1 q2
 rcases Az with⟨r1,r2,r3,r4,r5,r6,r7,r8,r9,GY,GZ⟩
 have em:r3=_:=em
 have q3:GZ=false:=q3
 subst em q3
 have G0:Fs= #[v0,v1,v2,v3,some (.builtin GS),v5]:=by
  rcases Fs with⟨y⟩
  exact congrArg Array.mk es
 subst G0
 have n5:=Heap.Ns.of_isNs (PySem.W.isNs_of_in hK q5)
 have n6:=PySem.W.nsMap_none_of_in hK q5 q6
 exact⟨Ea,r4,r1,r5,r2,r6,r7,r8,r9,GY,Bh,v0,v1,v2,v3,v5,_,hK _ _ zo,n5,n6,PySem.W.tail_of_in hK q4⟩
theorem qL{K:W.Frag}{t c:Value}(h1:PySem.W.subIn K c (.type "BaseException")=some true)(h2:PySem.W.kitOne K t c=some true)(qt:(t==c)=false):PySem.W.exmOne K t c=some true:=by
 unfold PySem.W.exmOne
 unfold PySem.W.kitOne at h2
 rw[qt] at h2
 rw[h1]
 exact h2
section
variable{prog:Program}{w:World}{A:Around}{E:Value→Shared→Prop}{s:Shared}
end
section
variable{X:Cx}{Xw:Nat→Hp→Prop}{e FP:Expr}{te ts:TE}{δ δs:DE}{pos p2:Pos}
variable{o:Expr}{δo:DE}{δl:DA}{apos aM:Pos}
end
namespace RV
end RV
def IsTupRev(h:Heap)(it t:Addr)(i:Int):Prop:=∃o,h.get? it=some o∧o.cls= .type "reversed"∧o.data= .fields #[.ref t,rawInt i]
section
variable{prog:Program}{w:World}{A:Around}{E:Value→Shared→Prop}{s:Shared}
theorem IsTupRev.typeIs{it t:Addr}{i:Int}(x:IsTupRev s.heap it t i):s.TypeIs (.ref it) "reversed":=let ⟨o,ho,hc,_⟩:=x;⟨o,ho,hc⟩
end
section
variable{X:Cx}{Xw:Nat→Hp→Prop}{tg e:Expr}{es:List Expr}{δ δi:DE}{δs:DA}{pos p:Pos}
end
end L3
namespace L3
open PySem PySem.Spec L2 SeqAt HT
open PyProof.Rows hiding St
def nK:D→Option Key
 | .int i=>some (.inl i)
 | .str x=>some (.inr x)
 |_=>none
def xJ:List D→Option (List Key)
 |[]=>some []
 |d::ds=>match nK d,xJ ds with
  |some k,some ks=>some (k::ks)
  |_,_=>none
def pz:D→Option (List Key)
 | .tup ds=>xJ ds
 |_=>none
theorem fR{K:W.Frag}{F:Hp}{d:D}{v:V}{k:Key}(e:nK d=some k)(h:Den K F d v):v=kV k:=by
 cases d<;>first | cases e | skip
 ·exact h
 ·exact h.1
theorem ip{K:W.Frag}{F:Hp}:∀{ds:List D}{vs:List V}{ks:List Key},xJ ds=some ks→DenL K F ds vs→vs=ks.map kV
 |[],_,_,e,h=>by cases e;exact h
 |d::ds,_,_,e,⟨v,r,h1,h2,h3⟩=>by
  unfold xJ at e
  split at e
  ·rename_i k ks e1 e2
   cases e
   subst h1
   rw[List.map_cons,fR e1 h2,ip e2 h3]
  ·cases e
section
variable{κ:Type}[DecidableEq κ]
def hJ:List κ→List D→κ→Option D
 |k'::ks,d::ds,k=>if k'=k then some d else hJ ks ds k
 |_,_,_=>none
def rE:List κ→List D→κ→D→List D
 |k'::ks,d'::ds,k,d=>(if k'=k then d else d')::rE ks ds k d
 |_,_,_,_=>[]
theorem iK{K:W.Frag}{F:Hp}:∀{ks:List κ}{ds:List D}{vs:List V}(k:κ),DenL K F ds vs→ks.length=ds.length→
 (match hJ ks ds k with | some d=>∃v,iL (ks.zip vs) k=some v∧Den K F d v | none=>iL (ks.zip vs) k=none)
 |[],[],_,_,_,_=>rfl
 |k'::ks,d::ds,_,k,⟨v,r,h1,h2,h3⟩,hl=>by
  subst h1
  unfold hJ
  rw[List.zip_cons_cons]
  by_cases e:k'=k
  ·rw[if_pos e,iN (p:=(k',v)) e]
   exact⟨v,rfl,h2⟩
  ·rw[if_neg e,iM (p:=(k',v)) e]
   exact iK k h3 (by simpa using hl)
 |[],_::_,_,_,_,hl=>by simp at hl
 |_::_,[],_,_,_,hl=>by simp at hl
theorem gj{K:W.Frag}{F:Hp}{ks:List κ}{ds:List D}{vs:List V}(k:κ)(h:DenL K F ds vs)(hl:ks.length=ds.length):(iL (ks.zip vs) k).isSome=(hJ ks ds k).isSome:=by
 have:=iK k h hl
 split at this
 ·rename_i d e
  obtain⟨v,e1,_⟩:=this
  rw[e1,e];rfl
 ·rename_i e
  rw[this,e]
  rfl
theorem p5{K:W.Frag}{F:Hp}{d:D}{v:V}(hd:Den K F d v):∀{ks:List κ}{ds:List D}{vs:List V}(k:κ),DenL K F ds vs→ks.length=ds.length→
 ∃ws,(ks.zip vs).map (fun kv=>if kv.1=k then(kv.1,v) else kv)=ks.zip ws∧DenL K F (rE ks ds k d) ws
 |[],[],_,_,h,_=>⟨[],rfl,rfl⟩
 |k'::ks,d'::ds,_,k,⟨v',r,h1,h2,h3⟩,hl=>by
  subst h1
  obtain⟨ws,e1,e2⟩:=p5 hd k h3 (by simpa using hl)
  by_cases e:k'=k
  ·refine⟨v::ws,?_,?_⟩
   ·rw[List.zip_cons_cons,List.map_cons,e1,if_pos e];rfl
   ·unfold rE;rw[if_pos e];exact .cons hd e2
  ·refine⟨v'::ws,?_,?_⟩
   ·rw[List.zip_cons_cons,List.map_cons,e1,if_neg e];rfl
   ·unfold rE;rw[if_neg e];exact .cons h2 e2
 |[],_::_,_,_,_,hl=>by simp at hl
 |_::_,[],_,_,_,hl=>by simp at hl
theorem lB:∀(ks:List κ) (ds:List D) (k:κ) (d:D),ks.length=ds.length→(rE ks ds k d).length=ds.length
 |[],[],_,_,_=>rfl
 |_::ks,_::ds,k,d,h=>by unfold rE;rw[List.length_cons,List.length_cons,lB ks ds k d (by simpa using h)]
 |[],_::_,_,_,h=>by simp at h
 |_::_,[],_,_,h=>by simp at h
def ly(ks:List κ)(ds:List D)(k:κ):List κ:=if (hJ ks ds k).isSome then ks else ks++[k]
def iG(ks:List κ)(ds:List D)(k:κ)(d:D):List D:=if (hJ ks ds k).isSome then rE ks ds k d else ds++[d]
theorem sN{K:W.Frag}{F:Hp}{d:D}{v:V}(hd:Den K F d v){ks:List κ}{ds:List D}{vs:List V}(k:κ)(h:DenL K F ds vs)(hl:ks.length=ds.length):
 ∃ws,putK (ks.zip vs) k v=(ly ks ds k).zip ws∧DenL K F (iG ks ds k d) ws∧(ly ks ds k).length=(iG ks ds k d).length:=by
 have hs:=gj (K:=K) (F:=F) k h hl
 unfold putK ly iG
 have ha:((ks.zip vs).any fun kv=>decide (kv.1=k))=(iL (ks.zip vs) k).isSome:=lJ ..
 rw[ha,hs]
 cases e:(hJ ks ds k).isSome with
 |true=>
  rw[if_pos rfl,if_pos rfl,if_pos rfl]
  obtain⟨ws,e1,e2⟩:=p5 hd k h hl
  exact⟨ws,e1,e2,by rw[lB ks ds k d hl];exact hl⟩
 |false=>
  rw[if_neg Bool.false_ne_true,if_neg Bool.false_ne_true,if_neg Bool.false_ne_true]
  refine⟨vs++[v],?_,h.append (.cons hd .nil),by simp[hl]⟩
  rw[List.zip_append (by rw[hl];exact h.len)]
  rfl
end
theorem oK{κ:Type}{K:W.Frag}{F:Hp}{ks:List κ}{ds:List D}{vs:List V}(h:DenL K F ds vs)(hl:ks.length=ds.length):(ks.zip vs).length=ds.length:=by
 rw[List.length_zip,hl,←h.len];omega
def lG(ρ:aY)(i:Nat):Option D:=match ρ[i]? with
 |some (some (.fz d))=>some d
 |some (some (.ow c))=>some c.d
 |_=>none
theorem wI{K:W.Frag}{F H:Hp}{σ:St}{ρ:aY}{i:Nat}{ks:List (List Key)}{ds:List D}(s:StE K F H σ ρ)(e:lG ρ i=some (.dct ks ds)):
 ∃a vs,σ[i]? =some (some (.ref a))∧Rd H a (.dT (ks.zip vs))∧DenL K F ds vs∧ks.length=ds.length∧ds.length≤lim:=by
 unfold lG at e
 split at e
 ·rename_i d e1
  cases e
  obtain⟨v,h1,a,ob,vs,rfl,h2,h3,h4,h5⟩:=s.den i _ e1
  exact⟨a,vs,h1, .inr ⟨ob,s.fh _ _ h2⟩,h3,h4,h5⟩
 ·rename_i c e1
  cases c<;>cases e
  obtain⟨v,h1,a,o,rfl,h2,_,vs,rfl,h3,h4,h5⟩:=s.den i _ e1
  exact⟨a,vs,h1, .inl h2,h3,h4,h5⟩
 ·cases e
theorem wH{K:W.Frag}{F H:Hp}{σ:St}{ρ:aY}{i:Nat}{ks:List Key}{ds:List D}(s:StE K F H σ ρ)(e:lG ρ i=some (.dci ks ds)):
 ∃a vs,σ[i]? =some (some (.ref a))∧Rd H a (.dK (ks.zip vs))∧DenL K F ds vs∧ks.length=ds.length∧ds.length≤lim:=by
 unfold lG at e
 split at e
 ·rename_i d e1
  cases e
  obtain⟨v,h1,a,ob,vs,rfl,h2,h3,h4,h5⟩:=s.den i _ e1
  exact⟨a,vs,h1, .inr ⟨ob,s.fh _ _ h2⟩,h3,h4,h5⟩
 ·rename_i c e1
  cases c<;>cases e
  obtain⟨v,h1,a,o,rfl,h2,_,vs,rfl,h3,h4,h5⟩:=s.den i _ e1
  exact⟨a,vs,h1, .inl h2,h3,h4,h5⟩
 ·cases e
def wZ:D→D→Option (Option D)
 | .dct ks ds,k=>(pz k).map (hJ ks ds)
 | .dci ks ds,k=>(nK k).map (hJ ks ds)
 |_,_=>none
theorem rX{K:W.Frag}{F H:Hp}{σ:St}{ρ:aY}{i:Nat}{d k:D}{y:V}{o:Option D}(s:StE K F H σ ρ)(hi:lG ρ i=some d)(hk:Den K F k y)(e:wZ d k=some o):
 ∃a ov,σ[i]? =some (some (.ref a))∧jZ H a y ov∧ov.isSome=o.isSome∧∀d',o=some d'→∃v,ov=some v∧Den K F d' v:=by
 unfold wZ at e
 split at e
 ·rename_i ks ds
  cases q:pz k with
  |none=>rw[q] at e;cases e
  |some kk=>
   rw[q] at e
   cases e
   obtain⟨a,vs,h1,h2,h3,h4,h5⟩:=wI s hi
   unfold pz at q
   split at q
   ·rename_i es
    obtain⟨b,ws,rfl,k2,k3,_⟩:=hk
    have e1:=ip q k3
    subst e1
    refine⟨a,_,h1, .inr ⟨_,kk,b,h2,rfl,s.fh _ _ k2,rfl⟩,gj kk h3 h4,fun d' xy=>?_⟩
    have:=iK (K:=K) (F:=F) kk h3 h4
    rw[xy] at this
    exact this
   ·cases q
 ·rename_i ks ds
  cases q:nK k with
  |none=>rw[q] at e;cases e
  |some kk=>
   rw[q] at e
   cases e
   obtain⟨a,vs,h1,h2,h3,h4,h5⟩:=wH s hi
   have e1:=fR q hk
   subst e1
   refine⟨a,_,h1, .inl ⟨_,kk,h2,rfl,rfl⟩,gj kk h3 h4,fun d' xy=>?_⟩
   have:=iK (K:=K) (F:=F) kk h3 h4
   rw[xy] at this
   exact this
 ·cases e
section
variable{X:Cx}{Xw:Nat→Hp→Prop}{a b:Expr}{δa δb:DE}{pos:Pos}
theorem y0(ha:PD X Xw a δa)(hb:PD X Xw b δb):PD X Xw (.Compare a [.LtE] [b] pos) (d2 Dk δa δb):=nY k8 (pR fun _ _ _=>rfl) ha hb
end
section
variable{X:Cx}{Xw:Nat→Hp→Prop}{a e:Expr}{δ δk δv:DE}{pos p pos' Ar apos aM:Pos}{x:Str}{i:Nat}
def Be(neg:Bool)(i:Nat)(δ:DE):DE:=fun ρ=>δ ρ>>=fun k=>match lG ρ i with
 |some d=>match wZ d k with
  |some o=>M.ret (.bl (if neg then !o.isSome else o.isSome))
  |none=>M.stuck
 |none=>M.stuck
theorem zJ{neg:Bool}{σ:St}{H:Hp}{Q:VK}(h:tD X.K Xw (Be neg i δ) σ H Q):(fun σ H Q=>tD X.K Xw δ σ H fun y H1=>md i σ H1 fun x H2=>∃a o,x= .ref a∧jZ H2 a y o∧Q (.bl (if neg then !o.isSome else o.isSome)) H2) σ H Q:=by
 obtain⟨F,ρ,s,w⟩:=h
 refine⟨F,ρ,s,WP.mono (WP.bind w) fun y H1 ⟨F1,k,e1,q1,w1⟩=>?_⟩
 have s1:=s.ext e1
 cases hi:lG ρ i with
 |none=>rw[hi] at w1;exact w1.elim
 |some d=>
  rw[hi] at w1
  have w1:WP X.K Xw F1 H1 (match wZ d k with | some o=>M.ret (.bl (if neg then !o.isSome else o.isSome)) | none=>M.stuck) Q:=w1
  cases he:wZ d k with
  |none=>rw[he] at w1;exact w1.elim
  |some o=>
   rw[he] at w1
   obtain⟨a,ov,h1,h2,h3,_⟩:=rX s1 hi q1 he
   refine⟨.ref a,h1,a,ov,rfl,h2,?_⟩
   rw[h3]
   exact WP.now w1 e1.fh rfl
theorem Eg(hu:X.A.units+64<cLine)(ha:PD X Xw a δ)(hv:PE X (.Name x p) (md i))(hm:behindInMarks .In (.Name x p)=false:=by rfl):PD X Xw (.Compare a [.In] [.Name x p] pos) (Be false i δ):=
 PE.weak (Ag (z8 (by omega) ha hv) hm) fun σ H Q h=>zJ (neg:=false) h
def y4(i:Nat):DS:=fun ρ=>M.ret (.nx (ρ.set i (some (.ow (.dci [] [])))))
theorem wa(hN:X.N.Nodup)(hi:X.N[i]? =some x)(hx:Loc X.env.scope x)(hf:X.fn x=true∨X.env.scope.names.lookup x=some .local:=by first | exact .inl rfl | exact .inr rfl):
 fx X Xw (.Assign [.Name x pos'] (.Dict [] [] Ar) pos) (y4 i):=fun F₀ H₀=>PS.weak (rD v7 (bZ hN hi hx hf) rfl) fun D σ H ⟨F,ρ,s,w⟩=>fun q hq=>
 w _ F _ (s.setNew (c₀:= .dci [] []) hq ⟨[],rfl,rfl,rfl,Nat.zero_le _⟩)
def lZ:C→D→D→Option C
 | .dct ks ds,k,d=>match pz k with
   |some kk=>if ds.length<lim then some (.dct (ly ks ds kk) (iG ks ds kk d)) else none
   |none=>none
 | .dci ks ds,k,d=>match nK k with
   |some kk=>if ds.length<lim then some (.dci (ly ks ds kk) (iG ks ds kk d)) else none
   |none=>none
 |_,_,_=>none
def xX(ρ:aY)(i:Nat):Option C:=match ρ[i]? with
 |some (some (.ow c))=>some c
 |_=>none
theorem uf{ρ:aY}{i:Nat}{c:C}(h:xX ρ i=some c):ρ[i]? =some (some (.ow c)):=by
 unfold xX at h
 split at h
 ·rename_i c' e
  cases h
  exact e
 ·cases h
def sT(i:Nat)(δk δv:DE):DS:=fun ρ=>match xX ρ i with
 |some c=>δv ρ>>=fun v=>δk ρ>>=fun k=>match lZ c k v with
  |some c'=>M.ret (.nx (ρ.set i (some (.ow c'))))
  |none=>M.stuck
 |none=>M.stuck
theorem mX{κ:Type}[DecidableEq κ]{ks:List κ}{ds:List D}{k:κ}{d:D}(hl:ks.length=ds.length)(h:ds.length<lim):(iG ks ds k d).length≤lim:=by
 unfold iG
 split
 ·rw[lB ks ds k d hl];omega
 ·rw[List.length_append];exact h
theorem wm{K:W.Frag}{F H:Hp}{c c':C}{k d:D}{y v:V}{o:HO}{b:Addr}(hs:Same F H)(hb:H b=some o)(hc:DenC K F c o)(hk:Den K F k y)(hd:Den K F d v)(e:lZ c k d=some c'):∃o',DPut H b y v (upd H b o')∧DenC K F c' o':=by
 have BE:=cJ
 unfold lZ at e
 split at e
 ·rename_i ks ds k d
  obtain⟨vs,rfl,h3,h4,h5⟩:=hc
  split at e
  ·rename_i kk q
   split at e
   ·rename_i j2
    cases e
    unfold pz at q
    split at q
    ·rename_i es
     obtain⟨b2,ws,rfl,k2,k3,_⟩:=hk
     have e1:=ip q k3
     subst e1
     obtain⟨us,e2,e3,e4⟩:=sN hd kk h3 h4
     refine⟨_,DPut.t hb (hs _ _ k2) (by rw[oK h3 h4];omega),us,?_,e3,e4,mX h4 j2⟩
     rw[e2]
    ·cases q
   ·cases e
  ·cases e
 ·rename_i ks ds k d
  obtain⟨vs,rfl,h3,h4,h5⟩:=hc
  split at e
  ·rename_i kk q
   split at e
   ·rename_i j2
    cases e
    have e1:=fR q hk
    subst e1
    obtain⟨us,e2,e3,e4⟩:=sN hd kk h3 h4
    refine⟨_,DPut.k hb (by rw[oK h3 h4];omega),us,?_,e3,e4,mX h4 j2⟩
    rw[e2]
   ·cases e
  ·cases e
 ·cases e
theorem wc(hu:X.A.units+64<cLine)(hv:PE X (.Name x p) (md i))(hk:PD X Xw a δk)(he:PD X Xw e δv)(hs:swapsWith e (some (.Subscript (.Name x p) a pos')) pos.line X.env=pure false:=by rfl):
 fx X Xw (.Assign [.Subscript (.Name x p) a pos'] e pos) (sT i δk δv):=fun F₀ H₀=>PS.weak (yk (by omega) hv hk he hs) fun D σ H ⟨F,ρ,s,w⟩=>by
 unfold sT at w
 cases ho:xX ρ i with
 |none=>rw[ho] at w;exact w.elim
 |some c=>
  rw[ho] at w
  have hi:=uf ho
  have w:WPS X.K Xw F₀ H₀ (δv ρ>>=fun v=>δk ρ>>=fun k=>match lZ c k v with | some c'=>M.ret (.nx (ρ.set i (some (.ow c')))) | none=>M.stuck) D:=w
  refine⟨F,ρ,s.st,?_⟩
  rcases(δv ρ).cs with q | ⟨n,q⟩ | ⟨dv,q⟩
  ·rw[q] at w;exact w.elim
  ·rw[q] at w⊢;exact fun F' H' e'=>w F' H' (s.ext.trans e')
  ·rw[q] at w⊢
   intro v H1 F1 e1 hq
   have s1:=s.ext' e1
   obtain⟨u,h1,b,o,rfl,h2,h3,h4⟩:=s1.st.den i _ hi
   have w:WPS X.K Xw F₀ H₀ (δk ρ>>=fun k=>match lZ c k dv with | some c'=>M.ret (.nx (ρ.set i (some (.ow c')))) | none=>M.stuck) D:=w
   refine⟨.ref b,h1,F1,ρ,s1.st,?_⟩
   rcases(δk ρ).cs with q2 | ⟨n,q2⟩ | ⟨dk,q2⟩
   ·rw[q2] at w;exact w.elim
   ·rw[q2] at w⊢;exact fun F' H' e'=>w F' H' (s1.ext.trans e')
   ·rw[q2] at w⊢
    intro y H2 F2 e2 hy
    have w:WPS X.K Xw F₀ H₀ (match lZ c dk dv with | some c'=>M.ret (.nx (ρ.set i (some (.ow c')))) | none=>M.stuck) D:=w
    cases hp:lZ c dk dv with
    |none=>rw[hp] at w;exact w.elim
    |some c'=>
     rw[hp] at w
     have s2:=s1.ext' e2
     obtain⟨u2,k1,b2,o2,F_,k2,k3,k4⟩:=s2.st.den i _ hi
     rw[h1] at k1
     cases k1
     cases F_
     obtain⟨o',g,hc⟩:=wm s2.st.fh k2 k4 hy (Den.mono e2.ff hq) hp
     exact⟨b,_,rfl,g,w σ F2 _ (s2.chg hi h1 hc)⟩
end
section
variable{X:Cx}{Xw:Nat→Hp→Prop}{τ:DS}{tc:DT}{pos:Pos}
end
section
variable{X:Cx}{Xw:Nat→Hp→Prop}{a b:Expr}{δa δb:DE}{pos:Pos}
end
end L3
namespace L3
open PySem PySem.W PyProof.Rows
structure Lt (n:Nat) (b:Nat→Nat→Bool):Prop where
 tr:∀i j k,b i j=true→b j k=true→b i k=true
 Hf:∀i j,b i j=true→b j i=false
 Hx:∀i j,i<n→j<n→i≠j→b i j=true∨b j i=true
abbrev at'(p:Array Nat)(i:Nat):Nat:=p.getD i 0
structure PN (n:Nat) (p:Array Nat):Prop where
 sz:p.size=n
 lt:∀i,i<n→at' p i<n
 inj:∀i j,i<n→j<n→at' p i=at' p j→i=j
section
variable{n:Nat}{b:Nat→Nat→Bool}(L:Lt n b)
include L
end
section
variable{n:Nat}{b:Nat→Nat→Bool}
variable(L:Lt n b)
include L
end
def Asks{α:Type}(n:Nat)(P:α→Prop):KasT α→Prop
 | .ret a=>P a
 | .ask i j k=>i<n∧j<n∧∀c,Asks n P (k c)
theorem Asks.bind{α β:Type}{n:Nat}{P:α→Prop}{Q:β→Prop}{f:α→KasT β}:∀{t:KasT α},Asks n P t→(∀a,P a→Asks n Q (f a))→Asks n Q (t.bind f)
 | .ret a,h,hf=>hf a h
 | .ask i j k,h,hf=>⟨h.1,h.2.1,fun c=>Asks.bind (h.2.2 c) hf⟩
section
variable{n:Nat}(hn:0<n)
include hn
end
def vw:List Int→List Int→Bool
 |[],[]=>false
 |[],_::_=>true
 |_::_,[]=>false
 |x::xs,y::ys=>if x=y then vw xs ys else decide (x<y)
section
variable{prog:Program}{w:World}{A:Around}{E:Value→Shared→Prop}{s:Shared}
theorem pC{Q:Bool→Shared→Prop}:∀{us vs:List Value}{xs ys:List Int}(i:Nat) {fin:Bool},IntsAre us xs→IntsAre vs ys→fin=decide (xs.length<ys.length)→Q (vw xs ys) s→KatLex prog w A true fin Q (us.zip vs) i s
 |_,_,_,_,i,_, .nil, .nil,e,h=>by subst e;exact kat_nil h
 |_,_,_,_,i,_, .nil, .cons y t r,e,h=>by subst e;exact kat_nil h
 |_,_,_,_,i,_, .cons x t r, .nil,e,h=>by subst e;exact kat_nil h
 |_,_,_,_,i,_, .cons (vs:=us) (ns:=xs) x t r, .cons (vs:=vs) (ns:=ys) y u r',e,h=>by
  refine kat_cons (wpAny_eqBool_int ?_)
  by_cases q:x=y
  ·subst q
   rw[show (x==x)=true by simp]
   refine kat_yes (pC (i+1) r r' (by rw[e];simp) ?_)
   unfold vw at h
   rw[if_pos rfl] at h
   exact h
  ·rw[show (x==y)=false by simpa using q]
   unfold vw at h
   rw[if_neg q] at h
   refine kat_no ?_
   by_cases hi:(i==0)=true
   ·rw[hi]
    exact oneLt_int h
   ·rw[show (i==0)=false by simpa using hi]
    exact kat_one _ _ (PyProof.Rows.lt_int h)
def TupsAt(h:Heap):List Value→List (List Int)→Prop
 |[],[]=>True
 |v::vs,k::ks=>(∃a o us m,v= .ref a∧h.get? a=some o∧o.cls= .type "tuple"∧o.data= .seq (List.toArray us) m∧IntsAre us k∧k≠[])∧TupsAt h vs ks
 |_,_=>False
theorem TupsAt.len{h:Heap}:∀{vs:List Value}{ks:List (List Int)},TupsAt h vs ks→vs.length=ks.length
 |[],[],_=>rfl
 |v::vs,k::ks,t=>by rw[List.length_cons,List.length_cons,TupsAt.len t.2]
 |[],_::_,t=>t.elim
 |_::_,[],t=>t.elim
theorem TupsAt.get{h:Heap}:∀{vs:List Value}{ks:List (List Int)}{i:Nat},TupsAt h vs ks→i<vs.length→∃a o us m,vs.getD i Value.none= .ref a∧h.get? a=some o∧o.cls= .type "tuple"∧o.data= .seq (List.toArray us) m∧IntsAre us (ks.getD i [])∧ks.getD i []≠[]
 |v::vs,k::ks,0,t,_=>t.1
 |v::vs,k::ks,i+1,t,hi=>TupsAt.get (i:=i) t.2 (by simpa using hi)
 |[],_,_,_,hi=>by simp at hi
 |_::_,[],_,t,_=>t.elim
theorem TupsAt.keep{h h':Heap}{a:Addr}(k:∀b o,b≠a→h.get? b=some o→h'.get? b=some o)(ha:∀o,h.get? a=some o→o.cls≠ .type "tuple"):∀{vs:List Value}{ks:List (List Int)},TupsAt h vs ks→TupsAt h' vs ks
 |[],[],_=>trivial
 |v::vs,x::ks,⟨⟨b,o,us,m,e1,e2,e3,e4⟩,t⟩=>⟨⟨b,o,us,m,e1,k b o (fun z=>ha o (by rw[←z];exact e2) e3) e2,e3,e4⟩,TupsAt.keep k ha t⟩
 |[],_::_,t=>t.elim
 |_::_,[],t=>t.elim
theorem kL:∀{us:List Value}{xs:List Int},IntsAre us xs→us.length=xs.length
 |_,_, .nil=>rfl
 |_,_, .cons x t r=>by rw[List.length_cons,List.length_cons,kL r]
theorem asked{vs:List Value}{ks:List (List Int)}(t:TupsAt s.heap vs ks)(i j:Nat)(C:Bool→Shared→Prop)(hi:i<vs.length)(hj:j<vs.length)(h:C (vw (ks.getD i []) (ks.getD j [])) s):kas_ask prog w A (tuples' true) vs i j C s:=by
 obtain⟨a,o,us,m,e1,e2,_,e4,e5,_⟩:=t.get hi
 obtain⟨a',o',Hy,m',Dd,De,_,FJ,EN,_⟩:=t.get hj
 unfold kas_ask
 rw[e1,Dd]
 refine kat_lt e2 e4 De FJ (pC 0 e5 EN ?_ h)
 rw[List.size_toArray,List.size_toArray,kL e5,kL EN]
end
section
variable{prog:Program}{w:World}{A:Around}{E:Value→Shared→Prop}{s:Shared}
end
end L3
namespace L3
open PySem
end L3
namespace L3
open PySem PySem.Spec L2 SeqAt HT
open PyProof.Rows hiding St
section
variable{X:Cx}{Xw:Nat→Hp→Prop}{e:Expr}{δs:DA}{pos p:Pos}
end
section
variable{X:Cx}{Xw:Nat→Hp→Prop}{e:Expr}{δs:DA}{pos p:Pos}
end
end L3
namespace L3
open PySem PySem.Spec L2
open PyProof.Rows hiding St
section
variable{X:Cx}{Xw:Nat→Hp→Prop}{e tg:Expr}{es:List Expr}{δ δ':DE}{δi δi' δs:DA}{τ:DT}
end
def fgt:List Nat→aY→aY
 |[],ρ=>ρ
 |i::is,ρ=>fgt is (ρ.set i none)
def BV(f:aY→aY):Out→M Out
 | .nx ρ=>M.ret (.nx (f ρ))
 | .rt d=>M.ret (.rt d)
def dQ(is:List Nat)(τ:DS):DS:=fun ρ=>τ ρ>>=BV (fgt is)
theorem StOk.fgt1{K:W.Frag}{F₀ H₀ F H:Hp}{σ:St}{ρ:aY}(s:StOk K F₀ H₀ F H σ ρ)(i:Nat):StOk K F₀ H₀ F H σ (ρ.set i none):=by
 have get:∀(j:Nat) (sl:Sl),(ρ.set i none)[j]? =some (some sl)→ρ[j]? =some (some sl):=fun j sl e=>by
  by_cases hj:j=i
  ·subst hj
   by_cases hl:j<ρ.length
   ·rw[List.getElem?_set_self hl] at e;cases e
   ·rw[List.getElem?_eq_none (by simpa using hl)] at e;cases e
  ·rw[List.getElem?_set_ne (Ne.symm hj)] at e;exact e
 exact⟨s.ext,⟨s.st.fh,fun j sl e=>s.st.den j sl (get j sl e)⟩,by simp[s.len],fun j c a e e'=>s.own j c a (get j _ e) e',fun j k c c' a e1 e2 e3 e4=>s.sep j k c c' a (get j _ e1) (get k _ e2) e3 e4⟩
theorem StOk.fgt{K:W.Frag}{F₀ H₀ F H:Hp}{σ:St}:∀(is:List Nat) {ρ:aY},StOk K F₀ H₀ F H σ ρ→StOk K F₀ H₀ F H σ (L3.fgt is ρ)
 |[],_,s=>s
 |i::is,_,s=>StOk.fgt is (s.fgt1 i)
theorem WPS.fgt{K:W.Frag}{Xw:Nat→Hp→Prop}{F₀ H₀:Hp}{is:List Nat}{m:M Out}{Dn:Ends}(w:WPS K Xw F₀ H₀ (m>>=BV (L3.fgt is)) Dn):WPS K Xw F₀ H₀ m Dn:=by
 match m,w with
 |none,w=>exact w
 |some (.ok (.nx ρ)),w=>exact fun σ F H s=>w σ F H (s.fgt is)
 |some (.ok (.rt d)),w=>exact w
 |some (.ex n),w=>exact w
section
variable{X:Cx}{Xw:Nat→Hp→Prop}{st:Stmt}{Ft:List Stmt}{τ:DS}{is:List Nat}
theorem cj(h:PSDs X Xw Ft τ):PSDs X Xw Ft (dQ is τ):=fun F₀ H₀=>PSs.weak (h F₀ H₀) fun D σ H ⟨F,ρ,s,w⟩=>⟨F,ρ,s,WPS.fgt w⟩
end
def FU:Option Sl→Option Sl
 |some (.ow c)=>some (.fz c.d)
 |x=>x
def uG(ρ:aY):aY:=ρ.map FU
def refA(h:Heap)(P:Addr→Prop)[DecidablePred P](H:Hp):Hp:=fun b=>if P b then(H b).map (fL ((h.get? b).getD {cls:= .none,data:= .fields #[]})) else H b
theorem qM(ob:Obj)(o:HO):fL ob o=o∨((∃k,o= .dT k)∨∃k,o= .dK k)∧fL ob o= .frz ob o:=by
 cases o<;>first | exact .inl rfl | exact .inr ⟨.inl ⟨_,rfl⟩,rfl⟩ | exact .inr ⟨.inr ⟨_,rfl⟩,rfl⟩
section
variable{X:Cx}{pins:List (Addr×Obj)}{σ:St}{H:Hp}{s:Shared}{P:Addr→Prop}[DecidablePred P]
theorem eY{h:Heap}{b:Addr}(e:H b=none):refA h P H b=none:=by
 unfold refA;split
 ·rw[e];rfl
 ·exact e
theorem mY{h:Heap}{b:Addr}{o:HO}(e:H b=some o):refA h P H b=some o∨((∃k,o= .dT k)∨∃k,o= .dK k)∧P b∧refA h P H b=some (.frz ((h.get? b).getD {cls:= .none,data:= .fields #[]}) o):=by
 unfold refA;split
 ·rename_i hp
  rw[e]
  rcases qM ((h.get? b).getD {cls:= .none,data:= .fields #[]}) o with q | ⟨q1,q2⟩
  ·exact .inl (by show some _=_;rw[q])
  ·exact .inr ⟨q1,hp,by show some _=_;rw[q2]⟩
 ·exact .inl e
theorem eX{h:Heap}{b:Addr}{o:HO}(e:H b=some o)(n1:∀k,o≠ .dT k)(n2:∀k,o≠ .dK k):refA h P H b=some o:=by
 rcases mY (P:=P) (h:=h) e with q | ⟨⟨k,q⟩ | ⟨k,q⟩,_⟩
 ·exact q
 ·exact absurd q (n1 k)
 ·exact absurd q (n2 k)
theorem Inv.refA(I:Inv X pins σ H s):Inv X pins σ (L3.refA s.heap P H) s:=by
 have obj:∀b o,H b=some o→((∃k,o=HO.dT k)∨∃k,o= .dK k)→∃ob,s.heap.get? b=some ob:=fun b o e hu=>by
  have hk:=I.hok b o e
  rcases hu with⟨k,h1⟩ | ⟨k,h1⟩
  ·subst h1;obtain⟨_,_,_,_,ob,_,_,q,_⟩:=hk;exact⟨ob,q⟩
  ·subst h1;obtain⟨_,_,_,_,ob,_,_,q,_⟩:=hk;exact⟨ob,q⟩
 refine⟨I.ok,I.os,I.bare,⟨I.base.keep,I.base.slot,fun b q h1 h2 h3=>eY (I.base.free b q h1 h2 h3),I.base.there,fun b xs q=>eX (I.base.tups b xs q) (fun _ z=>nomatch z) (fun _ z=>nomatch z),
  fun b q1 v q=>eX (I.base.frzs b q1 v q) (fun _ z=>nomatch z) (fun _ z=>nomatch z),fun b ps q=>?_⟩,I.loc,I.cell,eY I.free,fun x c q=>eY (I.freeC x c q),fun p hp=>?_,fun b v q=>?_,I.len⟩
 ·obtain⟨m,this⟩:=I.base.tbls b ps q
  exact⟨m,eX this (fun _ z=>nomatch z) (fun _ z=>nomatch z)⟩
 ·obtain⟨h1,h2,h3⟩:=I.pin p hp
  exact⟨h1,eY h2,h3⟩
 ·have st:∀{c:Addr}{v:HO},ObjOk X.prog X.w H s.heap c v→ObjOk X.prog X.w (L3.refA s.heap P H) s.heap c v:=fun {c v} k=>k.stay (fun _ _ _ q=>q)
   (fun c' q=>eX q (fun _ z=>nomatch z) (fun _ z=>nomatch z)) fun c' xs q=>eX q (fun _ z=>nomatch z) (fun _ z=>nomatch z)
  cases e:H b with
  |none=>rw[eY e] at q;cases q
  |some o=>
   rcases mY (P:=P) (h:=s.heap) e with z | ⟨hu,hp,z⟩
   ·rw[z] at q;cases q;exact st (I.hok b _ e)
   ·rw[z] at q
    cases q
    obtain⟨ob,BG⟩:=obj b o e hu
    rw[BG]
    exact⟨BG,st (I.hok b o e)⟩
def unA(P:Addr→Prop)[DecidablePred P](H:Hp):Hp:=fun b=>if P b then(match H b with | some (.frz _ u)=>some u | x=>x) else H b
theorem Inv.unA(I:Inv X pins σ H s)(hP:∀b,P b→∀o u,X.H₀ b≠some (.frz o u))(hQ:∀b,P b→∀o u,H b=some (.frz o u)→(∃k,u= .dT k)∨∃k,u= .dK k):Inv X pins σ (L3.unA P H) s:=by
 have non:∀b,H b=none→L3.unA P H b=none:=fun b e=>by unfold L3.unA;rw[e];split<;>rfl
 have keep:∀b o,H b=some o→(∀q u,o≠ .frz q u)→L3.unA P H b=some o:=fun b o e n=>by
  unfold L3.unA;split
  ·rw[e];cases o<;>first | rfl | exact absurd rfl (n _ _)
  ·exact e
 refine⟨I.ok,I.os,I.bare,⟨I.base.keep,I.base.slot,fun b q h1 h2 h3=>non b (I.base.free b q h1 h2 h3),I.base.there,fun b xs q=>keep b _ (I.base.tups b xs q) (fun _ _ z=>nomatch z),
  fun b q1 v q=>?_,fun b ps q=>?_⟩,I.loc,I.cell,non _ I.free,fun x c q=>non _ (I.freeC x c q),fun p hp=>?_,fun b v q=>?_,I.len⟩
 ·have:=I.base.frzs b q1 v q
  unfold L3.unA
  rw[if_neg (fun hp=>hP b hp q1 v q)]
  exact this
 ·obtain⟨m,this⟩:=I.base.tbls b ps q
  exact⟨m,keep b _ this (fun _ _ z=>nomatch z)⟩
 ·obtain⟨h1,h2,h3⟩:=I.pin p hp
  exact⟨h1,non _ h2,h3⟩
 ·have st:∀{c:Addr}{v:HO},ObjOk X.prog X.w H s.heap c v→ObjOk X.prog X.w (L3.unA P H) s.heap c v:=fun {c v} k=>k.stay (fun _ _ _ q=>q)
   (fun c' q=>keep c' _ q (fun _ _ z=>nomatch z)) fun c' xs q=>keep c' _ q (fun _ _ z=>nomatch z)
  cases e:H b with
  |none=>rw[non b e] at q;cases q
  |some o=>
   have ko:=I.hok b o e
   by_cases hf:∃ob u,o= .frz ob u
   ·obtain⟨ob,u,rfl⟩:=hf
    unfold L3.unA at q
    split at q
    ·rw[e] at q
     cases q
     obtain⟨_,k2⟩:=ko
     exact st k2
    ·rw[e] at q;cases q;exact st ko
   ·rw[keep b o e (fun q u z=>hf ⟨q,u,z⟩)] at q
    cases q
    exact st ko
end
mutual
def u7:D→Bool
 | .non=>true
 | .bl _=>true
 | .int _=>true
 | .str _=>true
 | .tup ds=>sj ds
 | .raw _=>false
 | .exc _=>false
 | .scr _=>false
 | .lst _=>false
 | .dct _ _=>false
 | .dci _ _=>false
def sj:List D→Bool
 |[]=>true
 |d::ds=>u7 d&&sj ds
end
def mx(d:D):M D:=if u7 d then M.ret d else M.stuck
def OwnAt(σ:St)(ρ:aY)(b:Addr):Prop:=∃(i:Nat) (c:C),ρ[i]? =some (some (Sl.ow c))∧σ[i]? =some (some (V.ref b))
section
variable{K:W.Frag}{F H F' H':Hp}{σ:St}{ρ:aY}{h:Heap}{b:Addr}
theorem OwnAt.obj(S:StE K F H σ ρ)(p:OwnAt σ ρ b):F b=none∧∃o,H b=some o∧((∃x,o= .lst x)∨(∃x,o= .dT x)∨∃x,o= .dK x):=by
 obtain⟨i,c,h1,h2⟩:=p
 obtain⟨v,h3,a,o,rfl,h4,h5,h6⟩:=S.den i _ h1
 rw[h3] at h2
 cases h2
 refine⟨h5,o,h4,?_⟩
 cases c with
 |lst ds=>obtain⟨vs,rfl,_⟩:=h6;exact .inl ⟨_,rfl⟩
 |dct ks ds=>obtain⟨vs,rfl,_⟩:=h6;exact .inr (.inl ⟨_,rfl⟩)
 |dci ks ds=>obtain⟨vs,rfl,_⟩:=h6;exact .inr (.inr ⟨_,rfl⟩)
open Classical in
noncomputable def fA(σ:St)(ρ:aY)(H1 F:Hp):Hp:=fun b=>if OwnAt σ ρ b then H1 b else F b
open Classical in
theorem si(S:StE K F H σ ρ){H1:Hp}:Same F (fA σ ρ H1 F):=fun b u e=>by
 unfold fA
 rw[if_neg (fun p=>by rw[(OwnAt.obj S p).1] at e;cases e)]
 exact e
open Classical in
theorem u9(S:StE K F H σ ρ):StE K (fA σ ρ (refA h (OwnAt σ ρ) H) F) (refA h (OwnAt σ ρ) H) σ (uG ρ):=by
 refine⟨fun b u e=>?_,fun j sl e=>?_⟩
 ·unfold fA at e
  split at e
  ·exact e
  ·rename_i hp
   unfold refA
   rw[if_neg hp]
   exact S.fh b u e
 ·unfold uG at e
  rw[List.getElem?_map] at e
  cases q:ρ[j]? with
  |none=>rw[q] at e;cases e
  |some x=>
   rw[q] at e
   cases x with
   |none=>cases e
   |some y=>
    cases y with
    |fz d=>
     cases e
     obtain⟨v,h1,h2⟩:=S.den j _ q
     exact⟨v,h1,Den.mono (si S) h2⟩
    |ow c=>
     cases e
     obtain⟨v,h1,a,o,rfl,h4,h5,h6⟩:=S.den j _ q
     refine⟨_,h1,DenC.den (ob:=(h.get? a).getD {cls:= .none,data:= .fields #[]}) h6 (si S) ?_⟩
     have hp:OwnAt σ ρ a:=⟨j,c,q,h1⟩
     unfold fA refA
     rw[if_pos hp,if_pos hp,h4]
     rfl
open Classical in
theorem pb(S:StE K F H σ ρ)(E:Ext (fA σ ρ (refA h (OwnAt σ ρ) H) F) (refA h (OwnAt σ ρ) H) F' H'):
 Ext F H (fun b=>if OwnAt σ ρ b then none else F' b) (unA (OwnAt σ ρ) H')∧∀b,OwnAt σ ρ b→∀o u,H' b=some (.frz o u)→(∃k,u= .dT k)∨∃k,u= .dK k:=by
 have EM:∀b,OwnAt σ ρ b→∃o,H b=some o∧H' b=some (fL ((h.get? b).getD {cls:= .none,data:= .fields #[]}) o)∧((∃x,o= .lst x)∨(∃x,o= .dT x)∨∃x,o= .dK x):=fun b hp=>by
  obtain⟨_,o,h1,h2⟩:=OwnAt.obj S hp
  refine⟨o,h1,E.hh b _ ?_,h2⟩
  unfold refA
  rw[if_pos hp,h1]
  rfl
 refine⟨⟨fun b o e=>?_,fun b u e=>?_,fun b u e=>?_,fun b hb=>?_⟩,fun b hp o u e=>?_⟩
 ·unfold unA
  by_cases hp:OwnAt σ ρ b
  ·obtain⟨o',h1,h2,h3⟩:=EM b hp
   rw[e] at h1
   cases h1
   rw[if_pos hp,h2]
   rcases h3 with⟨x,rfl⟩ | ⟨x,rfl⟩ | ⟨x,rfl⟩<;>rfl
  ·rw[if_neg hp]
   refine E.hh b o ?_
   unfold refA
   rw[if_neg hp]
   exact e
 ·have hp:¬OwnAt σ ρ b:=fun p=>by rw[(OwnAt.obj S p).1] at e;cases e
  show (if OwnAt σ ρ b then none else F' b)=_
  rw[if_neg hp]
  refine E.ff b u ?_
  unfold fA
  rw[if_neg hp]
  exact e
 ·have e:(if OwnAt σ ρ b then none else F' b)=some u:=e
  split at e
  ·cases e
  ·rename_i hp
   unfold unA
   rw[if_neg hp]
   exact E.fh b u e
 ·show (if OwnAt σ ρ b then none else F' b)=F b∨_
  by_cases hp:OwnAt σ ρ b
  ·rw[if_pos hp]
   exact .inl (OwnAt.obj S hp).1.symm
  ·rw[if_neg hp]
   have e1:refA h (OwnAt σ ρ) H b=H b:=by unfold refA;rw[if_neg hp]
   have e2:fA σ ρ (refA h (OwnAt σ ρ) H) F b=F b:=by unfold fA;rw[if_neg hp]
   rcases E.new b (by rw[e1];exact hb) with q | q
   ·exact .inl (q.trans e2)
   ·rw[e1] at q;exact .inr q
 ·obtain⟨o',h1,h2,h3⟩:=EM b hp
  rw[e] at h2
  rcases h3 with⟨x,rfl⟩ | ⟨x,rfl⟩ | ⟨x,rfl⟩
  ·cases h2
  ·cases h2;exact .inl ⟨_,rfl⟩
  ·cases h2;exact .inr ⟨_,rfl⟩
open Classical in
mutual
theorem o9(S:StE K F H σ ρ)(E:Ext (fA σ ρ (refA h (OwnAt σ ρ) H) F) (refA h (OwnAt σ ρ) H) F' H'):∀{d:D}{v:V},u7 d=true→Den K F' d v→Den K (fun b=>if OwnAt σ ρ b then none else F' b) d v
 | .non,_,_,q=>q
 | .bl _,_,_,q=>q
 | .int _,_,_,q=>q
 | .str _,_,_,q=>q
 | .tup ds,_,f,⟨a,vs,h1,h2,h3,h4⟩=>by
   refine⟨a,vs,h1,?_,my S E ?_ h3,h4⟩
   ·show (if OwnAt σ ρ a then none else F' a)=_
    rw[if_neg,h2]
    intro hp
    obtain⟨_,o,k1,k2⟩:=OwnAt.obj S hp
    have k3:fA σ ρ (refA h (OwnAt σ ρ) H) F a=some (fL ((h.get? a).getD {cls:= .none,data:= .fields #[]}) o):=by
     unfold fA refA
     rw[if_pos hp,if_pos hp,k1]
     rfl
    have k4:=E.ff a _ k3
    rw[h2] at k4
    rcases k2 with⟨x,rfl⟩ | ⟨x,rfl⟩ | ⟨x,rfl⟩<;>cases k4
   ·exact f
 | .raw _,_,f,_=>by cases f
 | .exc _,_,f,_=>by cases f
 | .scr _,_,f,_=>by cases f
 | .lst _,_,f,_=>by cases f
 | .dct _ _,_,f,_=>by cases f
 | .dci _ _,_,f,_=>by cases f
theorem my(S:StE K F H σ ρ)(E:Ext (fA σ ρ (refA h (OwnAt σ ρ) H) F) (refA h (OwnAt σ ρ) H) F' H'):∀{ds:List D}{vs:List V},sj ds=true→DenL K F' ds vs→DenL K (fun b=>if OwnAt σ ρ b then none else F' b) ds vs
 |[],_,_,q=>q
 |d::ds,_,f,⟨v,r,h1,h2,h3⟩=>by
  unfold sj at f
  rw[Bool.and_eq_true] at f
  exact⟨v,r,h1,o9 S E f.1 h2,my S E f.2 h3⟩
end
end
section
variable{X:Cx}{Xw:Nat→Hp→Prop}{e:Expr}{δ:DE}{τ:DT}
theorem mP{pins:List (Addr×Obj)}{s:Shared}{F H:Hp}{σ:St}{ρ:aY}(I:Inv X pins σ H s)(S:StE X.K F H σ ρ)(b:Addr)(p:OwnAt σ ρ b)(o:Obj)(u:HO):X.H₀ b≠some (.frz o u):=fun z=>by
 obtain⟨_,o',k1,k2⟩:=OwnAt.obj S p
 have:=I.base.frzs b o u z
 rw[k1] at this
 rcases k2 with⟨x,rfl⟩ | ⟨x,rfl⟩ | ⟨x,rfl⟩<;>cases this
theorem kY{α:Type}(m:M α):noex m=M.stuck∨∃a,m=M.ret a∧noex m=M.ret a:=by
 rcases m.cs with h | ⟨n,h⟩ | ⟨a,h⟩
 ·subst h;exact .inl rfl
 ·subst h;exact .inl rfl
 ·subst h;exact .inr ⟨a,rfl,rfl⟩
theorem rC(h:oT X Xw e τ):oT X Xw e (fun ρ=>noex (τ (uG ρ))):=fun pins s σ H Q I ⟨F,ρ,S,w⟩=>by
 classical
 rcases kY (τ (uG ρ)) with q | ⟨b,q,q2⟩
 ·have w:WPB Xw F H (noex (τ (uG ρ))) Q:=w
  rw[q] at w
  exact w.elim
 ·have w:WPB Xw F H (noex (τ (uG ρ))) Q:=w
  rw[q2] at w
  refine bV (h pins s σ _ (fun b' H'=>Q b' (unA (OwnAt σ ρ) H')∧∀c,OwnAt σ ρ c→∀o u,H' c=some (.frz o u)→(∃k,u= .dT k)∨∃k,u= .dK k) (Inv.refA (P:=OwnAt σ ρ) I) ⟨_,_,u9 (h:=s.heap) S,?_⟩) fun b' s' ⟨H',I',q1,q3⟩=>⟨_,Inv.unA I' (mP I S) q3,q1⟩
  rw[q]
  intro H' F' E
  obtain⟨E1,q3⟩:=pb S E
  exact⟨w _ _ E1,q3⟩
theorem BX(h:PD X Xw e δ):PD X Xw e (fun ρ=>noex (δ (uG ρ))>>=mx):=fun pins s σ H Q I ⟨F,ρ,S,w⟩=>by
 classical
 rcases kY (δ (uG ρ)) with q | ⟨d,q,q2⟩
 ·have w:WP X.K Xw F H (noex (δ (uG ρ))>>=mx) Q:=w
  rw[q] at w
  exact w.elim
 ·have w:WP X.K Xw F H (noex (δ (uG ρ))>>=mx) Q:=w
  rw[q2,ao] at w
  unfold mx at w
  split at w
  ·rename_i hf
   refine bV (h pins s σ _ (fun v H'=>Q v (unA (OwnAt σ ρ) H')∧∀c,OwnAt σ ρ c→∀o u,H' c=some (.frz o u)→(∃k,u= .dT k)∨∃k,u= .dK k) (Inv.refA (P:=OwnAt σ ρ) I) ⟨_,_,u9 (h:=s.heap) S,?_⟩) fun b' s' ⟨v,H',I',rv,q1,q3⟩=>⟨v,_,Inv.unA I' (mP I S) q3,rv,q1⟩
   rw[q]
   intro v H' F' E dn
   obtain⟨E1,q3⟩:=pb S E
   exact⟨w _ _ _ E1 (o9 S E hf dn),q3⟩
  ·exact w.elim
end
abbrev DF:=aY→M C
def WPF(K:W.Frag)(Xw:Nat→Hp→Prop)(F H:Hp)(m:M C)(Q:VK):Prop:=
 match m with
 |none=>False
 |some (.ok c)=>∀a o H' F',Ext F H F' H'→H' a=some o→F' a=none→H a=none→DenC K F' c o→Q (.ref a) H'
 |some (.ex n)=>∀F' H',Ext F H F' H'→Xw n H'
def G1(K:W.Frag)(Xw:Nat→Hp→Prop)(δ:DF):TE:=fun σ H Q=>∃F ρ,StE K F H σ ρ∧WPF K Xw F H (δ ρ) Q
def CZ(X:Cx)(Xw:Nat→Hp→Prop)(e:Expr)(δ:DF):Prop:=PE X e (G1 X.K Xw δ)
theorem WPF.mono{K:W.Frag}{Xw:Nat→Hp→Prop}{F H:Hp}{m:M C}{Q Q':VK}(h:WPF K Xw F H m Q)(k:∀v H',Q v H'→Q' v H'):WPF K Xw F H m Q':=by
 match m,h with
 |none,h=>exact h
 |some (.ok d),h=>exact fun a o H' F' e h1 h2 h3 h4=>k _ _ (h a o H' F' e h1 h2 h3 h4)
 |some (.ex n),h=>exact h
theorem WPF.ext{K:W.Frag}{Xw:Nat→Hp→Prop}{F H F1 H1:Hp}{m:M C}{Q:VK}(e:Ext F H F1 H1)(h:WPF K Xw F H m Q):WPF K Xw F1 H1 m Q:=by
 match m,h with
 |none,h=>exact h
 |some (.ok d),h=>exact fun a o H' F' e' h1 h2 h3 h4=>h a o H' F' (e.trans e') h1 h2 (Same.free e.hh h3) h4
 |some (.ex n),h=>exact fun F2 H2 e2=>h F2 H2 (e.trans e2)
theorem WPF.bind{K:W.Frag}{Xw:Nat→Hp→Prop}{F H:Hp}{m:M D}{k:D→M C}{Q:VK}(h:WPF K Xw F H (m>>=k) Q):WP K Xw F H m fun v H1=>∃F1 d,Ext F H F1 H1∧Den K F1 d v∧WPF K Xw F1 H1 (k d) Q:=by
 match m,h with
 |none,h=>exact h
 |some (.ok d),h=>exact fun v H2 F2 e2 q=>⟨F2,d,e2,q,WPF.ext e2 (show WPF K Xw F H (k d) Q from h)⟩
 |some (.ex n),h=>exact h
section
variable{X:Cx}{Xw:Nat→Hp→Prop}{e k v a b:Expr}{es:List Expr}{δ δ':DF}{δk δv δa δb:DE}{δs:DA}{pos pos' p:Pos}{x:Str}{i:Nat}
theorem Ext.fresh{F H:Hp}{p:Addr}{o:HO}(s:Same F H)(hp:H p=none):Ext F H F (upd H p o)∧F p=none:=⟨Ext.free s hp,Same.free s hp⟩
theorem uW{pins:List (Addr×Obj)}{σ:St}{H H':Hp}{s:Shared}{a:Addr}{y v:V}{u r:Value}{A:Around}{E:Value→Shared→Prop}{Q:Unit→Shared→Prop}(hu:A.units+1<cLine)(I:Inv X pins σ H s)(g:DPut H a y v H')(ry:RelV y u)(rv:RelV v r)(h:∀s',Inv X pins σ H' s'→Q () s'):
 wpAny (model X.prog X.w) A (dictSet a u r) Q E s:=by
 rcases g with⟨aJ,k,e,ey,l,eH⟩ | ⟨aJ,k,b,e,ey,eb,l,eH⟩
 ·subst ey eH
  obtain⟨z,hd,vs,rel,dd⟩:=yJ I.hok e
  have hz:vs.length≤sizeLine:=by rw[←rel.length];exact z
  have hl:(putK aJ k v).length≤sizeLine:=by have:=ek aJ k v;omega
  refine wpAny_dictSet_pairs (hsz:=hz) (kQ ry) dd fun h' xp hs=>h _ ?_
  have he:∃q,h'.get? a=some q:=let ⟨q,_,_,hq,_⟩:=xp;⟨q,hq⟩
  exact j_ I (by rw[e];exact True.intro) hs he (uZ hl hd (rel.put k rv) xp)
 ·subst ey eH
  cases (show u=Value.ref b from ry)
  obtain⟨z,hd,xs,rel,dd⟩:=yK I.hok e
  have hz:xs.length≤sizeLine:=by rw[←Paired.length rel];exact z
  have hl:(putK aJ k v).length≤sizeLine:=by have:=ek aJ k v;omega
  refine wpAny_dictSet_heap (knd:=tupleKind (bz X.prog X.w)) (hsz:=hz) (by exact(show A.units<cLine by omega)) (gX I.hok eb) dd fun h' xp hs=>h _ ?_
  obtain⟨q,es,ep,hq,h2,h3,h4,_,h5⟩:=xp
  refine j_ I (by rw[e];exact True.intro) hs ⟨q,hq⟩ ⟨hl,hd,_,(rel.put k eb rv).keeps fun c ys ec=>?_,q,es,ep,hq,h2,h3,h4,h5⟩
  rw[ax (yX ec e (fun z=>nomatch z))]
  exact ec
end
section
variable{X:Cx}{Xw:Nat→Hp→Prop}{e k v a b:Expr}{es:List Expr}{δk δv δa δb:DE}{δs:DA}{pos pos' p:Pos}{x:Str}{i:Nat}
theorem uY{o0:HO}{put:Hp→Addr→V→V→Hp→Prop}(hu:X.A.units+1<cLine)(h0:∀(H:Hp) (h:Heap),sysModules<h.objs.size→ObjOk X.prog X.w H (h.push {cls:= .type "dict",data:= .dict #[]}) h.objs.size o0){tk tv:TE}(hk:PE X k tk)(hv:PE X v tv):
 PE X (.Dict [some k] [v] pos) (fun σ H Q=>∀p,H p=none→tk σ (upd H p o0) fun y H1=>tv σ H1 fun z H2=>∃H3,DPut H2 p y z H3∧Q (.ref p) H3):=by
 intro pins s σ H Q I q
 have hn:=I.hok.fresh (Nat.le_refl s.heap.objs.size)
 have I1:=I.laid (a:=s.heap.objs.size) (o:=o0) (h':=s.heap.push {cls:= .type "dict",data:= .dict #[]}) (t':=s.toks) (fun _ _ q=>Heap.get?_push_of_some _ q) (Nat.le_refl _) (h0 _ s.heap I.big)
 refine wpAny_Dict_any rfl rfl (by simp) (by simp) (bV (lx hk hv sM pins _ σ _ (fun ps H2=>∃y z H3,ps=[(y,z)]∧DPut H2 s.heap.objs.size y z H3∧Q (.ref s.heap.objs.size) H3) I1 ?_) fun ws s2 ⟨ps,H2,I2,rel,y,z,H3,ep,g,q2⟩=>?_)
 ·refine ?_
  have:=q _ hn
  show tk σ _ fun y H1=>tv σ H1 fun z H2=>∃y' z' H3,[(y,z)]=[(y',z')]∧DPut H2 s.heap.objs.size y' z' H3∧Q (.ref s.heap.objs.size) H3
  have e:(fun (y:V) (H1:Hp)=>tv σ H1 fun z H2=>∃y' z' H3,[(y,z)]=[(y',z')]∧DPut H2 s.heap.objs.size y' z' H3∧Q (.ref s.heap.objs.size) H3)=(fun y H1=>tv σ H1 fun z H2=>∃H3,DPut H2 s.heap.objs.size y z H3∧Q (.ref s.heap.objs.size) H3):=by
   funext y H1
   congr 1
   funext z H2
   refine propext ⟨fun ⟨y',z',H3,ee,r⟩=>?_,fun⟨H3,r⟩=>⟨y,z,H3,rfl,r⟩⟩
   cases ee
   exact⟨H3,r⟩
  rw[e]
  exact this
 ·subst ep
  cases rel with
  | @cons a b as bs h t=>
    cases t
    obtain⟨r1,r2⟩:=h
    unfold storeAll
    rw[List.forIn_cons]
    refine wpAny_bind (wpAny_bind (uW hu I2 g r1 r2 fun s3 I3=>?_))
    refine wpAny_pure ?_
    show wpAny _ _ (forIn ([]:List (Value×Value)) PUnit.unit _) _ _ _
    rw[List.forIn_nil]
    exact wpAny_pure ⟨V.ref s.heap.objs.size,_,I3,rfl,q2⟩
def o5(k v:D):M C:=match pz k with
 |some kk=>M.ret (.dct [kk] [v])
 |none=>M.stuck
theorem AY(hu:X.A.units+64<cLine)(hk:PD X Xw k δk)(hv:PD X Xw v δv):CZ X Xw (.Dict [some k] [v] pos) (fun ρ=>δk ρ>>=fun x=>δv ρ>>=fun y=>o5 x y):=
 PE.weak (uY (o0:= .dT []) (put:=DPut) (by omega) (fun H h hb=>u0 h hb) hk hv) fun σ H Q ⟨F,ρ,s,w⟩ q hq=>by
  have e0:=Ext.free (o:= .dT []) s.fh hq
  refine⟨F,ρ,s.ext e0,?_⟩
  have w:WPF X.K Xw F H (δk ρ>>=fun x=>δv ρ>>=fun y=>o5 x y) Q:=w
  match yS:δk ρ,w with
  |none,w=>exact w
  |some (.ex n),w=>exact fun F' H' e'=>w F' H' (e0.trans e')
  |some (.ok kd),w=>
   intro y H1 F1 e1 q1
   refine⟨F1,ρ,(s.ext e0).ext e1,?_⟩
   have w:WPF X.K Xw F H (δv ρ>>=fun y=>o5 kd y) Q:=w
   match AW:δv ρ,w with
   |none,w=>exact w
   |some (.ex n),w=>exact fun F' H' e'=>w F' H' (e0.trans (e1.trans e'))
   |some (.ok vd),w=>
    intro z H2 F2 e2 q2
    have w3:WPF X.K Xw F H (o5 kd vd) Q:=w
    clear w
    unfold o5 at w3
    cases AV:pz kd with
    |none=>rw[AV] at w3;exact w3.elim
    |some kk=>
     rw[AV] at w3
     have E:=e1.trans e2
     have GA:H2 q=some (.dT []):=E.hh _ _ aA
     have EY:F2 q=none:=by
      have:=E.old (a:=q) (o:= .dT []) aA (fun _ z=>nomatch z)
      rw[this]
      exact Same.free s.fh hq
     unfold pz at AV
     split at AV
     ·rename_i es
      obtain⟨b,ws,rfl,k2,k3,_⟩:=Den.mono e2.ff q1
      have e5:=ip AV k3
      subst e5
      refine⟨_,DPut.t (k:=kk) GA (e2.fh _ _ k2) (by rw[sizeLine_eq];decide),?_⟩
      refine w3 q (.dT (putK [] kk z)) _ F2 ⟨fun c u hc=>?_,(e0.trans E).ff,fun c u hc=>?_,(e0.trans E).new⟩ aA EY hq ⟨[z],rfl, .cons q2 .nil,rfl,show 1≤lim by decide⟩
      ·rw[ax (fun zz=>by rw[zz,hq] at hc;cases hc)]
       exact(e0.trans E).hh c u hc
      ·rw[ax (fun zz=>by rw[zz,EY] at hc;cases hc)]
       exact e2.fh c u hc
     ·cases AV
theorem rW{K:W.Frag}{F H:Hp}{d k:D}{x y:V}{o:Option D}(s:Same F H)(hd:Den K F d x)(hk:Den K F k y)(e:wZ d k=some o):
 ∃a ov,x= .ref a∧jZ H a y ov∧ov.isSome=o.isSome∧∀d',o=some d'→∃v,ov=some v∧Den K F d' v:=by
 obtain⟨a,ov,h1,h2,h3,h4⟩:=rX (σ:=[some x]) (ρ:=[some (.fz d)]) (i:=0) (H:=H) ⟨s,fun i sl q=>by
  match i,q with
  |0,q=>cases q;exact⟨x,rfl,hd⟩
  |i+1,q=>simp at q⟩ rfl hk e
 cases h1
 exact⟨a,ov,rfl,h2,h3,h4⟩
def pe(neg:Bool)(k d:D):M D:=match wZ d k with
 |some o=>M.ret (.bl (if neg then !o.isSome else o.isSome))
 |none=>M.stuck
def B7(neg:Bool):R2:=fun y x H Q=>∃a o,x= .ref a∧jZ H a y o∧Q (.bl (if neg then !o.isSome else o.isSome)) H
theorem ue(hu:X.A.units+64<cLine):OpR X (compareOp .NotIn) (B7 true):=fun pins s σ H y x v u Q I ry rx ⟨a,o,ex,g,q⟩=>by
 subst ex
 obtain rfl:u=Value.ref a:=rx
 exact xo (by omega) I g ry fun s' I'=>⟨.bl (!o.isSome),_,I',rfl,q⟩
theorem xS{K:W.Frag}{neg:Bool}:rV K (B7 neg) (pe neg):=fun Xw F H y x dk dd Q s hk hd w=>by
 unfold pe at w
 cases he:wZ dd dk with
 |none=>rw[he] at w;exact w.elim
 |some o=>
  rw[he] at w
  obtain⟨a,ov,h1,h2,h3,_⟩:=rW s hd hk he
  refine⟨a,ov,h1,h2,?_⟩
  rw[h3]
  exact WP.now w s rfl
theorem uq(hu:X.A.units+64<cLine)(ha:PD X Xw a δa)(hb:PD X Xw b δb)(hm:behindInMarks .NotIn b=false:=by rfl):oT X Xw (.Compare a [.NotIn] [b] pos) (da (d2 (pe true) δa δb)):=kj (ue hu) xS ha hb hm
end
section
variable{X:Cx}{pins:List (Addr×Obj)}{σ:St}{H:Hp}{s:Shared}{h':Heap}
end
section
variable{X:Cx}{Xw:Nat→Hp→Prop}{tg e:Expr}{es:List Expr}{δ δi:DE}{δs:DA}{pos p tp:Pos}{x1:Nat}
end
section
variable{X:Cx}{Xw:Nat→Hp→Prop}{tg l:Expr}{δ:DE}
end
end L3
namespace L3
open PySem
section
variable{prog:Program}{w:World}{K:Type}[DecidableEq K]{knd:HeapKind prog w K}{A:Around}{E:Value→Shared→Prop}{s:Shared}
end
end L3
namespace L3
open PySem PySem.Spec L2
open PyProof.Rows hiding St
section
variable{X:Cx}{pins:List (Addr×Obj)}{σ:St}{H:Hp}{s:Shared}{a b:Addr}{A:Around}{E:Value→Shared→Prop}
end
section
variable{X:Cx}{Xw:Nat→Hp→Prop}{o e f:Expr}{δ δo δe δf:DE}{pos p apos aM:Pos}{x:Str}{i:Nat}
end
section
variable{X:Cx}{Xw:Nat→Hp→Prop}{o e f:Expr}{δ δo δe δf:DE}{δs:DA}{pos p apos aM:Pos}{x:Str}{i:Nat}
def kM:D→Bool
 | .dct _ _=>true
 | .dci _ _=>true
 |_=>false
theorem su{K:W.Frag}{F H:Hp}{d:D}{x:V}(s:Same F H)(hd:Den K F d x)(e:kM d=true):∃a,x= .ref a∧Cv H a:=by
 cases d with
 |dct ks ds=>obtain⟨a,ob,vs,rfl,h2,_⟩:=hd;exact⟨a,rfl, .inr ⟨_, .inr ⟨ob,s _ _ h2⟩⟩⟩
 |dci ks ds=>obtain⟨a,ob,vs,rfl,h2,_⟩:=hd;exact⟨a,rfl, .inl ⟨_, .inr ⟨ob,s _ _ h2⟩⟩⟩
 |_=>cases e
def getM(d k v:D):M D:=match wZ d k with
 |some (some x)=>M.ret x
 |some none=>M.ret v
 |none=>M.stuck
def Bd(δo δe:DE):DE:=fun ρ=>δo ρ>>=fun d=>if kM d then δe ρ>>=fun k=>getM d k .non else M.stuck
def kC(δo δe δf:DE):DE:=fun ρ=>δo ρ>>=fun d=>if kM d then δe ρ>>=fun k=>δf ρ>>=fun v=>getM d k v else M.stuck
theorem pf{F H:Hp}{d k v:D}{a:Addr}{y z:V}{Q:VK}(s:Same F H)(q1:Den X.K F d (.ref a))(q2:Den X.K F k y)(q3:Den X.K F v z)(w:WP X.K Xw F H (getM d k v) Q):∃ov,jZ H a y ov∧Q (ov.getD z) H:=by
 unfold getM at w
 cases zv:wZ d k with
 |none=>rw[zv] at w;exact w.elim
 |some o'=>
  rw[zv] at w
  obtain⟨a',ov,zz,h2,h3,h4⟩:=rW s q1 q2 zv
  cases zz
  refine⟨ov,h2,?_⟩
  cases o' with
  |none=>
   cases ov with
   |none=>exact WP.now w s q3
   |some _=>cases h3
  |some d'=>
   obtain⟨v,rfl,hv⟩:=h4 d' rfl
   exact WP.now w s hv
theorem CO(hu:X.A.units+64<cLine)(ho:PD X Xw o δo)(he:PD X Xw e δe)(m:M1 X o "get" apos e aM):PD X Xw (.Call (.Attribute o "get" apos) [e] [] aM) (Bd δo δe):=
 PE.weak (vY (by omega) ho he m) fun σ H Q ⟨F,ρ,s,w⟩=>by
  refine⟨F,ρ,s,WP.mono (WP.bind w) fun x H1 ⟨F1,d,e1,q1,w1⟩=>?_⟩
  split at w1
  ·rename_i hd
   obtain⟨a,rfl,D5⟩:=su e1.fh q1 hd
   refine⟨a,rfl,D5,F1,ρ,s.ext e1,WP.mono (WP.bind w1) fun y H2 ⟨F2,k,e2,q2,w2⟩=>?_⟩
   exact pf (v:= .non) (z:= .non) e2.fh (Den.mono e2.ff q1) q2 (show V.non=V.non from rfl) w2
  ·exact w1.elim
theorem sG(hu:X.A.units+64<cLine)(ho:PD X Xw o δo)(he:PD X Xw e δe)(hf:PD X Xw f δf)(m:M2 X o "get" apos e f aM):PD X Xw (.Call (.Attribute o "get" apos) [e,f] [] aM) (kC δo δe δf):=
 PE.weak (vZ (by omega) ho he hf m) fun σ H Q ⟨F,ρ,s,w⟩=>by
  refine⟨F,ρ,s,WP.mono (WP.bind w) fun x H1 ⟨F1,d,e1,q1,w1⟩=>?_⟩
  split at w1
  ·rename_i hd
   obtain⟨a,rfl,D5⟩:=su e1.fh q1 hd
   refine⟨a,rfl,D5,F1,ρ,s.ext e1,WP.mono (WP.bind w1) fun y H2 ⟨F2,k,e2,q2,w2⟩=>?_⟩
   refine⟨F2,ρ,(s.ext e1).ext e2,WP.mono (WP.bind w2) fun z H3 ⟨F3,v,e3,q3,w3⟩=>?_⟩
   exact pf e3.fh (Den.mono e3.ff (Den.mono e2.ff q1)) (Den.mono e3.ff q2) q3 w3
  ·exact w1.elim
def jB:List D→M D
 |[.dci ks _]=>M.ret (.int ks.length)
 |_=>M.stuck
theorem qE:CallR X (.builtin "len") (fun xs H Q=>∃a aJ,xs=[.ref a]∧Rd H a (.dK aJ)∧Q (.int aJ.length) H):=by
 intro pins s σ H xs us Q I r ⟨a,aJ,e,h,q⟩
 subst e
 obtain⟨u,rfl,ru⟩:=r.one
 cases (show u=_ from ru)
 exact Bg I h fun t s' I'=>⟨.int aJ.length,H,I',⟨_,rfl⟩,q⟩
theorem yb(hg:Gl X "len")(hm:X.mg "len"=none)(ha:j0 X Xw [e] δs)(he:starEach [e] X.env=[(false,eval e X.env)]:=by rfl):PD X Xw (.Call (.Name "len" p) [e] [] pos) (dA jB δs):=
 f9 qE (fun Xw F H vs ds Q s h w=>by
  unfold jB at w
  split at w
  ·rename_i ks es
   obtain⟨v,rfl,h1⟩:=h.one
   obtain⟨a,ob,ws,rfl,h2,h3,h4,h5⟩:=h1
   refine⟨a,_,rfl, .inr ⟨ob,s _ _ h2⟩,?_⟩
   rw[oK h3 h4,←h4]
   exact WP.now w s rfl
  ·exact w.elim) hg hm PySem.boot_len ha (by decide) (by decide) he rfl
end
section
variable{X:Cx}{Xw:Nat→Hp→Prop}{a b e FP:Expr}{δ δa δb δs:DE}{pos p2:Pos}
end
section
variable{prog:Program}{w:World}{A:Around}{E:Value→Shared→Prop}{s:Shared}
end
def qN:List Nat→yD
 |[]=>Br
 |i::is=>yM (vb i) (qN is)
def rJ:List Nat→List D→aY→aY
 |i::is,d::ds,ρ=>rJ is ds (ρ.set i (some (.fz d)))
 |_,_,ρ=>ρ
def p0(is:List Nat):D→aY→Option aY
 | .tup ds,ρ=>if ds.length=is.length then some (rJ is ds ρ) else none
 |_,_=>none
theorem m6{K:W.Frag}{F₀ H₀ F H:Hp}{Q:St→Hp→Prop}:∀(is:List Nat) (ds:List D) (vs:List V) (σ:St) (ρ:aY),ds.length=is.length→StOk K F₀ H₀ F H σ ρ→DenL K F ds vs→(∀σ',StOk K F₀ H₀ F H σ' (rJ is ds ρ)→Q σ' H)→qN is vs σ H Q
 |[],[],vs,σ,ρ,_,s,h,k=>⟨h,k σ s⟩
 |i::is,d::ds,vs,σ,ρ,hl,s,⟨v,r,e,h1,h2⟩,k=>by
  subst e
  exact⟨v,r,rfl,m6 is ds r _ _ (by simpa using hl) (s.set h1) h2 k⟩
 |[],_::_,_,_,_,hl,_,_,_=>by simp at hl
 |_::_,[],_,_,_,hl,_,_,_=>by simp at hl
theorem yr{K:W.Frag}{is:List Nat}:uI K (Bs K is.length (qN is)) (p0 is):=fun F₀ H₀ F H σ ρ ρ' d v Q s q e k=>by
 unfold p0 at e
 split at e
 ·rename_i ds
  split at e
  ·rename_i hl
   cases e
   obtain⟨a,vs,rfl,hs,hd,_⟩:=q
   exact⟨a,vs,rfl,SqT.of (s.st.fh _ _ hs),by rw[←hd.len];exact hl,m6 is ds vs σ ρ hl s hd k⟩
  ·cases e
 ·cases e
section
variable{prog:Program}{w:World}{A:Around}{E:Value→Shared→Prop}{s:Shared}
end
section
variable{prog:Program}{w:World}{A:Around}{E:Value→Shared→Prop}{s:Shared}
end
section
variable{X:Cx}{Xw:Nat→Hp→Prop}{a b e e2:Expr}{δa δb:DE}{δs:DA}{p pos:Pos}
end
mutual
def yI:D→Bool
 | .non=>true
 | .bl _=>true
 | .int _=>true
 | .str _=>true
 | .tup ds=>o4 ds
 | .lst ds=>o4 ds
 | .raw _=>false
 | .exc _=>false
 | .scr _=>false
 | .dct _ _=>false
 | .dci _ _=>false
def o4:List D→Bool
 |[]=>true
 |d::ds=>yI d&&o4 ds
end
def pS(ρ:aY):Bool:=ρ.all fun x=>match x with
 |some (.ow (.lst _))=>false
 |_=>true
theorem vP{ρ:aY}{i:Nat}{ds:List D}(h:pS ρ=true)(e:ρ[i]? =some (some (.ow (.lst ds)))):False:=by
 have:=List.all_eq_true.mp h _ (List.mem_of_getElem? e)
 cases this
section
variable{K:W.Frag}{F H F' H':Hp}{σ:St}{ρ:aY}{h:Heap}{b:Addr}
theorem OwnAt.dict(S:StE K F H σ ρ)(hd:pS ρ=true)(p:OwnAt σ ρ b):∃o,H b=some o∧((∃x,o= .dT x)∨∃x,o= .dK x):=by
 obtain⟨i,c,h1,h2⟩:=p
 obtain⟨v,h3,a,o,rfl,h4,h5,h6⟩:=S.den i _ h1
 rw[h3] at h2
 cases h2
 refine⟨o,h4,?_⟩
 cases c with
 |lst ds=>exact(vP hd h1).elim
 |dct ks ds=>obtain⟨vs,rfl,_⟩:=h6;exact .inl ⟨_,rfl⟩
 |dci ks ds=>obtain⟨vs,rfl,_⟩:=h6;exact .inr ⟨_,rfl⟩
open Classical in
theorem sE(S:StE K F H σ ρ)(hd:pS ρ=true)(E:Ext (fA σ ρ (refA h (OwnAt σ ρ) H) F) (refA h (OwnAt σ ρ) H) F' H'){a:Addr}{o:HO}(e:F' a=some o)(qt:∀q u,o≠ .frz q u):(if OwnAt σ ρ a then none else F' a)=some o:=by
 rw[if_neg,e]
 intro hp
 obtain⟨o',k1,k2⟩:=OwnAt.dict S hd hp
 have k3:fA σ ρ (refA h (OwnAt σ ρ) H) F a=some (fL ((h.get? a).getD {cls:= .none,data:= .fields #[]}) o'):=by
  unfold fA refA
  rw[if_pos hp,if_pos hp,k1]
  rfl
 have k4:=E.ff a _ k3
 rw[e] at k4
 rcases k2 with⟨x,rfl⟩ | ⟨x,rfl⟩<;>cases k4<;>exact qt _ _ rfl
open Classical in
mutual
theorem uX(S:StE K F H σ ρ)(hd:pS ρ=true)(E:Ext (fA σ ρ (refA h (OwnAt σ ρ) H) F) (refA h (OwnAt σ ρ) H) F' H'):∀{d:D}{v:V},yI d=true→Den K F' d v→Den K (fun b=>if OwnAt σ ρ b then none else F' b) d v
 | .non,_,_,q=>q
 | .bl _,_,_,q=>q
 | .int _,_,_,q=>q
 | .str _,_,_,q=>q
 | .tup ds,_,f,⟨a,vs,h1,h2,h3,h4⟩=>⟨a,vs,h1,sE S hd E h2 (fun _ _ z=>nomatch z),iY S hd E f h3,h4⟩
 | .lst ds,_,f,⟨a,vs,h1,h2,h3,h4⟩=>⟨a,vs,h1,sE S hd E h2 (fun _ _ z=>nomatch z),iY S hd E f h3,h4⟩
 | .raw _,_,f,_=>by cases f
 | .exc _,_,f,_=>by cases f
 | .scr _,_,f,_=>by cases f
 | .dct _ _,_,f,_=>by cases f
 | .dci _ _,_,f,_=>by cases f
theorem iY(S:StE K F H σ ρ)(hd:pS ρ=true)(E:Ext (fA σ ρ (refA h (OwnAt σ ρ) H) F) (refA h (OwnAt σ ρ) H) F' H'):∀{ds:List D}{vs:List V},o4 ds=true→DenL K F' ds vs→DenL K (fun b=>if OwnAt σ ρ b then none else F' b) ds vs
 |[],_,_,q=>q
 |d::ds,_,f,⟨v,r,h1,h2,h3⟩=>by
  unfold o4 at f
  rw[Bool.and_eq_true] at f
  exact⟨v,r,h1,uX S hd E f.1 h2,iY S hd E f.2 h3⟩
end
end
section
variable{X:Cx}{Xw:Nat→Hp→Prop}{e:Expr}{δ:DE}
end
def CA(δ:DE):DE:=fun ρ=>noex (δ (uG ρ))>>=mx
def A2(τ:DT):DT:=fun ρ=>noex (τ (uG ρ))
def Cd(is:List Nat)(τ:DS):DS:=fun ρ=>τ (fgt is ρ)
section
variable{X:Cx}{Xw:Nat→Hp→Prop}{st:Stmt}{τ:DS}{is:List Nat}
theorem ym(h:fx X Xw st τ):fx X Xw st (Cd is τ):=fun F₀ H₀=>PS.weak (h F₀ H₀) fun D σ H ⟨F,ρ,s,w⟩=>⟨F,_,s.fgt is,w⟩
end
section
variable{X:Cx}{Xw:Nat→Hp→Prop}{a b e o:Expr}{δ δa δb δo:DE}{δl:DA}{pos apos aM:Pos}
def Df(x y:Str):Bool:=decide (0+y.length≤x.length)&&Builtin.Str.subAt x y (x.length - y.length)
def AQ:D→List D→M D
 | .str x,[.str y]=>M.ret (.bl (Df x y))
 |_,_=>M.stuck
def lC(x:Str)(n:Nat):Str:=⟨(List.replicate n x.cps).foldl (· ++ ·) #[]⟩
def kI:D→D→M D
 | .str x, .int k=>if (0≤k∧k≤64)∧x.length*k.toNat≤lim then M.ret (.str (lC x k.toNat)) else M.stuck
 |_,_=>M.stuck
theorem p6(x:Str):∀(n:Nat) (a:Array Nat),((List.replicate n x.cps).foldl (· ++ ·) a).toList=a.toList++(List.replicate n x.cps.toList).flatten
 |0,a=>by simp
 |n+1,a=>by
  rw[List.replicate_succ,List.foldl_cons,p6 x n,List.replicate_succ,List.flatten_cons,Array.toList_append,List.append_assoc]
theorem et(x:Str)(n:Nat):(lC x n).cps.toList=(List.replicate n x.cps.toList).flatten:=by
 show ((List.replicate n x.cps).foldl (· ++ ·) #[]).toList=_
 rw[p6]
 rfl
theorem iI{x y:Str}(h:x.cps.toList=y.cps.toList):x=y:=by
 obtain⟨⟨a⟩⟩:=x
 obtain⟨⟨b⟩⟩:=y
 cases (show a=b from h)
 rfl
theorem lD(x:Str)(n:Nat):(lC x n).length=x.length*n:=by
 show (lC x n).cps.toList.length=x.cps.toList.length*n
 rw[et]
 induction n with
 |zero=>simp
 |succ n ih=>rw[List.replicate_succ,List.flatten_cons,List.length_append,ih,Nat.mul_succ];omega
theorem wy(x:Str):lC x 1=x:=iI (by rw[et];simp)
theorem wx{x:Str}(h:x.length=0)(n:Nat):lC x n=x:=by
 have e:=sV h
 subst e
 refine iI ?_
 rw[et]
 induction n with
 |zero=>rfl
 |succ n ih=>rw[List.replicate_succ,List.flatten_cons,ih];rfl
theorem xR:OpR X (binaryOp .Mult) (fun x y H Q=>∃(z:Str) (k:Int),x= .str z∧y= .int k∧(0≤k∧k≤64)∧z.length*k.toNat≤lim∧Q (.str (lC z k.toNat)) H):=by
 intro pins s σ H x y v u Q I rx ry h
 obtain⟨z,k,rfl,rfl,hk,hl,q⟩:=h
 obtain⟨t,rfl⟩:=rx
 obtain⟨t2,rfl⟩:=ry
 have Ho:=cJ
 refine PySem.P.mul_str (by simp;omega) (fun _ _=>?_) (fun _ _=>?_) ?_
 ·have h1:(2 ^ 63 - 1:Int) / 64≤(2 ^ 63 - 1) / k∨k=0:=by
   by_cases h0:k=0
   ·exact .inr h0
   ·exact .inl (Int.le_ediv_of_mul_le (by omega) (by have:(2 ^ 63 - 1:Int) / 64*k≤(2 ^ 63 - 1) / 64*64:=Int.mul_le_mul_of_nonneg_left hk.2 (by decide);exact Int.le_trans this (by decide)))
  rename_i Hr BF
  have E7:1≤k.toNat:=by omega
  have:z.length≤z.length*k.toNat:=Nat.le_mul_of_pos_right _ E7
  have:(z.length:Int)≤lim:=by exact_mod_cast (by omega:z.length≤lim)
  rcases h1 with h1 | h1
  ·have h2:((lim:Nat):Int)≤(2 ^ 63 - 1:Int) / 64:=by decide
   omega
  ·omega
 ·unfold Builtin.Str.tooLong
  simp
  omega
 ·by_cases h1:k<1
  ·rw[if_pos h1]
   have h0:k=0:=by omega
   subst h0
   exact⟨by show 0≤_;exact Nat.zero_le _,⟨.str _,H,I.tok _,⟨_,rfl⟩,q⟩⟩
  ·rw[if_neg h1]
   by_cases h2:(k==1||z.length==0)=true
   ·rw[if_pos h2]
    have e:lC z k.toNat=z:=by
     rcases Bool.or_eq_true_iff.mp h2 with h3 | h3
     ·have:k=1:=by simpa using h3
      subst this
      exact wy z
     ·exact wx (by simpa using h3) _
    rw[e] at q
    exact⟨.str z,H,I,⟨t,rfl⟩,q⟩
   ·rw[if_neg h2]
    exact⟨by have:=lD z k.toNat;show (lC z k.toNat).length≤sizeLine;omega,⟨.str _,H,I.tok _,⟨_,rfl⟩,q⟩⟩
theorem yc(ha:PD X Xw a δa)(hb:PD X Xw b δb):PD X Xw (.BinOp a .Mult b pos) (d2 kI δa δb):=gM xR (fun Xw F H x y dx dy Q s hx hy w=>by
 unfold kI at w
 split at w
 ·rename_i z k
  split at w
  ·rename_i hc
   exact⟨z,k,hx.1,hy,hc.1,hc.2,WP.now w s ⟨rfl,by rw[lD];exact hc.2⟩⟩
  ·exact w.elim
 ·exact w.elim) ha hb
end
section
variable{X:Cx}{Xw:Nat→Hp→Prop}{e:Expr}{δs:DA}{pos p:Pos}
end
section
variable{X:Cx}{Xw:Nat→Hp→Prop}{a b e o k v k' v':Expr}{δ δa δb δo δk δv δk' δv':DE}{δl δs:DA}{pos apos aM p:Pos}
theorem uk(ha:PD X Xw a δa)(hb:PD X Xw b δb)(hm:behindInMarks .NotIn b=false:=by rfl):PD X Xw (.Compare a [.NotIn] [b] pos) (d2 (ic true) δa δb):=nY nU (fun Xw F H x y dx dy Q s hx hy w=>by
 unfold ic at w
 split at w
 ·exact⟨_,_,hx.1,hy.1,WP.now w s rfl⟩
 ·exact w.elim) ha hb hm
def pk:List D→M D
 |[.bl b]=>M.ret (.int (if b then 1 else 0))
 |_=>M.stuck
theorem mn:CallR X (.type "int") (fun xs H Q=>∃b:Bool,xs=[.bl b]∧Q (.int (if b then 1 else 0)) H):=by
 intro pins s σ H xs us Q I r h
 obtain⟨b,rfl,q⟩:=h
 obtain⟨u,rfl,r1⟩:=r.one
 cases (show u=_ from r1)
 exact call_int_bool ⟨.int _,H,I.tok _,⟨_,rfl⟩,q⟩
theorem ya(hg:Gl X "int")(hm:X.mg "int"=none)(hb:bootBuiltins "int"=some (.type "int"))(ha:j0 X Xw [e] δs)(he:starEach [e] X.env=[(false,eval e X.env)]:=by rfl):PD X Xw (.Call (.Name "int" p) [e] [] pos) (dA pk δs):=
 mU mn (fun Xw F H vs ds Q s h w=>by
  unfold pk at w
  split at w
  ·obtain⟨v,rfl,h1⟩:=h.one
   exact⟨_,by rw[show v=_ from h1],WP.now w s rfl⟩
  ·exact w.elim) hg hm hb ha (by decide) (by decide) he rfl
def fP:D→List D→M D
 | .str x,[.str y]=>match Builtin.Str.occurrences x y 0 x.length 1 with
   |i::_=>M.ret (.int (i:Int))
   |[]=>M.stuck
 |_,_=>M.stuck
theorem vA:AN X "str.index" (fun x vs H Q=>∃(y z:Str) (i:Nat) (r:List Nat),x= .str y∧vs=[.str z]∧Builtin.Str.occurrences y z 0 y.length 1=i::r∧Q (.int (i:Int)) H):=by
 intro pins s σ H x vs v us Q I rx rv h
 obtain⟨y,z,i,r,rfl,rfl,ho,q⟩:=h
 obtain⟨t,rfl⟩:=rx
 obtain⟨u,rfl,r1⟩:=rv.one
 obtain⟨t2,rfl⟩:=r1
 exact SC.index ho ⟨.int _,H,I.tok _,⟨_,rfl⟩,q⟩
theorem vS(ho:PD X Xw o δo)(ha:j0 X Xw [e] δl)(dZ:attributeBase o "index" X.env (eval o X.env)=eval o X.env:=by rfl)
 (gW:((backTo aM (starEach [e] X.env)).all (fun x=>!x.1)&&(backToKw aM (keywordEach [] X.env)).all (fun x=>x.1.isSome)&&decide ([e].length+([]:List Keyword).length+(if ([]:List Keyword).isEmpty then 0 else 1)<30))=true:=by rfl)
 (d4:(apos.endLine==aM.line)=true:=by rfl)(qQ:starEach [e] X.env=[(false,eval e X.env)]:=by rfl):PD X Xw (.Call (.Attribute o "index" apos) [e] [] aM) (dM kf fP δo δl):=
 sF PySem.F.plainAttrs_str PySem.F.slot_str_index PySem.F.type_str_index vA vn (fun Xw F H x vs d ds Q s hx hv w=>by
  unfold fP at w
  split at w
  ·rename_i y z
   obtain⟨v,rfl,h1⟩:=hv.one
   split at w
   ·rename_i i r hi
    exact⟨y,z,i,r,hx.1,by rw[h1.1],hi,WP.now w s rfl⟩
   ·exact w.elim
  ·exact w.elim) ho ha dZ gW d4 qQ rfl
theorem Ad{δ:DF}(h:CZ X Xw e δ):PD X Xw e (fun ρ=>δ ρ>>=fun c=>M.ret c.d):=fun pins s σ H Q I ⟨F,ρ,S,w⟩=>by
 have w:WP X.K Xw F H (δ ρ>>=fun c=>M.ret c.d) Q:=w
 refine wpAny_mono (h pins s σ H (fun v H1=>∃c a o F1,v= .ref a∧Ext F H F1 H1∧H1 a=some o∧F1 a=none∧H a=none∧DenC X.K F1 c o∧WP X.K Xw F H (M.ret c.d) Q) I ⟨F,ρ,S,?_⟩) ?_ (fun _ _ z=>z)
 ·match q:δ ρ,w with
  |none,w=>exact w
  |some (.ex n),w=>exact w
  |some (.ok c),w=>exact fun a o H' F' E h1 h2 h3 h4=>⟨c,a,o,F',rfl,E,h1,h2,h3,h4,w⟩
 ·intro u s1 ⟨v,H1,I1,rv,c,a,o,F1,ev,E,h1,h2,h3,h4,w1⟩
  subst ev
  have ff:Same F1 (upd F1 a (fL ((s1.heap.get? a).getD {cls:= .none,data:= .fields #[]}) o)):=fun b o e=>by rw[ax (fun z=>by rw[z,h2] at e;cases e)];exact e
  have fh:Same (upd F1 a (fL ((s1.heap.get? a).getD {cls:= .none,data:= .fields #[]}) o)) (upd H1 a (fL ((s1.heap.get? a).getD {cls:= .none,data:= .fields #[]}) o)):=fun b o e=>by
   by_cases z:b=a
   ·rw[z,aA] at e⊢;exact e
   ·rw[ax z] at e⊢;exact E.fh b o e
  refine⟨.ref a,upd H1 a (fL ((s1.heap.get? a).getD {cls:= .none,data:= .fields #[]}) o),L3.Inv.refrz I1 h1 ?_,rv,w1 _ _ (upd F1 a (fL ((s1.heap.get? a).getD {cls:= .none,data:= .fields #[]}) o)) ⟨fun b u q=>?_,E.ff.trans ff,fh,fun b hb=>?_⟩ (DenC.den h4 ff aA)⟩
  ·cases c with
   |lst ds=>obtain⟨vs,rfl,_⟩:=h4;exact .inl rfl
   |dct ks ds=>obtain⟨vs,rfl,_⟩:=h4;exact .inr ⟨_,rfl, .inl ⟨_,rfl,rfl⟩⟩
   |dci ks ds=>obtain⟨vs,rfl,_⟩:=h4;exact .inr ⟨_,rfl, .inr ⟨_,rfl,rfl⟩⟩
  ·rw[ax (fun z=>by rw[z,h3] at q;cases q)];exact E.hh b u q
  ·rcases E.new b hb with q | q
   ·exact .inl (by rw[ax (fun z=>hb (by rw[z];exact h3))];exact q)
   ·exact .inr q
theorem tG{o0:HO}(hu:X.A.units+1<cLine)(h0:∀(H:Hp) (h:Heap),sysModules<h.objs.size→ObjOk X.prog X.w H (h.push {cls:= .type "dict",data:= .dict #[]}) h.objs.size o0){tk tv Co Cq:TE}(hk:PE X k tk)(hv:PE X v tv)(yS:PE X k' Co)(AW:PE X v' Cq):
 PE X (.Dict [some k,some k'] [v,v'] pos) (fun σ H Q=>∀p,H p=none→tk σ (upd H p o0) fun y H1=>tv σ H1 fun z H2=>Co σ H2 fun y' H3=>Cq σ H3 fun z' H4=>∃H5 H6,DPut H4 p y z H5∧DPut H5 p y' z' H6∧Q (.ref p) H6):=by
 intro pins s σ H Q I q
 have hn:=I.hok.fresh (Nat.le_refl s.heap.objs.size)
 have I1:=I.laid (a:=s.heap.objs.size) (o:=o0) (h':=s.heap.push {cls:= .type "dict",data:= .dict #[]}) (t':=s.toks) (fun _ _ q=>Heap.get?_push_of_some _ q) (Nat.le_refl _) (h0 _ s.heap I.big)
 refine wpAny_Dict_any rfl rfl (by simp) (by simp) (bV (lx hk hv (lx yS AW sM) pins _ σ _ (fun ps H4=>∃y z y' z' H5 H6,ps=[(y,z),(y',z')]∧DPut H4 s.heap.objs.size y z H5∧DPut H5 s.heap.objs.size y' z' H6∧Q (.ref s.heap.objs.size) H6) I1 ?_) fun ws s2 ⟨ps,H2,I2,rel,y,z,y',z',H5,H6,ep,g1,g2,q2⟩=>?_)
 ·have:=q _ hn
  show tk σ _ fun y H1=>tv σ H1 fun z H2=>Co σ H2 fun y' H3=>Cq σ H3 fun z' H4=>∃a b c d H5 H6,[(y,z),(y',z')]=[(a,b),(c,d)]∧DPut H4 s.heap.objs.size a b H5∧DPut H5 s.heap.objs.size c d H6∧Q (.ref s.heap.objs.size) H6
  have e:(fun (y:V) (H1:Hp)=>tv σ H1 fun z H2=>Co σ H2 fun y' H3=>Cq σ H3 fun z' H4=>∃a b c d H5 H6,[(y,z),(y',z')]=[(a,b),(c,d)]∧DPut H4 s.heap.objs.size a b H5∧DPut H5 s.heap.objs.size c d H6∧Q (.ref s.heap.objs.size) H6)=(fun y H1=>tv σ H1 fun z H2=>Co σ H2 fun y' H3=>Cq σ H3 fun z' H4=>∃H5 H6,DPut H4 s.heap.objs.size y z H5∧DPut H5 s.heap.objs.size y' z' H6∧Q (.ref s.heap.objs.size) H6):=by
   funext y H1
   congr 1
   funext z H2
   congr 1
   funext y' H3
   congr 1
   funext z' H4
   refine propext ⟨fun ⟨a,b,c,d,H5,H6,ee,r⟩=>?_,fun⟨H5,H6,r⟩=>⟨y,z,y',z',H5,H6,rfl,r⟩⟩
   cases ee
   exact⟨H5,H6,r⟩
  rw[e]
  exact this
 ·subst ep
  cases rel with
  | @cons a1 w1 Hd Hg h t=>
   cases t with
   | @cons a2 w2 He Hh h2 t2=>
    cases t2
    obtain⟨r1,r2⟩:=h
    obtain⟨r3,r4⟩:=h2
    unfold storeAll
    rw[List.forIn_cons]
    refine wpAny_bind (wpAny_bind (uW hu I2 g1 r1 r2 fun s3 I3=>?_))
    refine wpAny_pure ?_
    show wpAny _ _ (forIn [w2] PUnit.unit _) _ _ _
    rw[List.forIn_cons]
    refine wpAny_bind (wpAny_bind (uW hu I3 g2 r3 r4 fun s4 I4=>?_))
    refine wpAny_pure ?_
    show wpAny _ _ (forIn ([]:List (Value×Value)) PUnit.unit _) _ _ _
    rw[List.forIn_nil]
    exact wpAny_pure ⟨V.ref s.heap.objs.size,_,I4,rfl,q2⟩
def fJ(x y x' y':D):M C:=match nK x,nK x' with
 |some a,some b=>M.ret (if a=b then .dci [a] [y'] else .dci [a,b] [y,y'])
 |_,_=>M.stuck
theorem rB(hu:X.A.units+64<cLine)(hk:PD X Xw k δk)(hv:PD X Xw v δv)(yS:PD X Xw k' δk')(AW:PD X Xw v' δv'):
 CZ X Xw (.Dict [some k,some k'] [v,v'] pos) (fun ρ=>δk ρ>>=fun x=>δv ρ>>=fun y=>δk' ρ>>=fun x'=>δv' ρ>>=fun y'=>fJ x y x' y'):=
 PE.weak (tG (o0:= .dK []) (by omega) (fun H h hb=>o6 h hb) hk hv yS AW) fun σ H Q ⟨F,ρ,s,w⟩ q hq=>by
  have e0:=Ext.free (o:= .dK []) s.fh hq
  refine⟨F,ρ,s.ext e0,?_⟩
  have w:WPF X.K Xw F H (δk ρ>>=fun x=>δv ρ>>=fun y=>δk' ρ>>=fun x'=>δv' ρ>>=fun y'=>fJ x y x' y') Q:=w
  match E7:δk ρ,w with
  |none,w=>exact w
  |some (.ex n),w=>exact fun F' H' e'=>w F' H' (e0.trans e')
  |some (.ok kd),w=>
   intro y H1 F1 e1 q1
   refine⟨F1,ρ,(s.ext e0).ext e1,?_⟩
   have w:WPF X.K Xw F H (δv ρ>>=fun y=>δk' ρ>>=fun x'=>δv' ρ>>=fun y'=>fJ kd y x' y') Q:=w
   match Ht:δv ρ,w with
   |none,w=>exact w
   |some (.ex n),w=>exact fun F' H' e'=>w F' H' (e0.trans (e1.trans e'))
   |some (.ok vd),w=>
    intro z H2 F2 e2 q2
    refine⟨F2,ρ,((s.ext e0).ext e1).ext e2,?_⟩
    have w:WPF X.K Xw F H (δk' ρ>>=fun x'=>δv' ρ>>=fun y'=>fJ kd vd x' y') Q:=w
    match Hn:δk' ρ,w with
    |none,w=>exact w
    |some (.ex n),w=>exact fun F' H' e'=>w F' H' (e0.trans (e1.trans (e2.trans e')))
    |some (.ok D8),w=>
     intro y' H3 F3 e3 q3
     refine⟨F3,ρ,(((s.ext e0).ext e1).ext e2).ext e3,?_⟩
     have w:WPF X.K Xw F H (δv' ρ>>=fun y'=>fJ kd vd D8 y') Q:=w
     match Hu:δv' ρ,w with
     |none,w=>exact w
     |some (.ex n),w=>exact fun F' H' e'=>w F' H' (e0.trans (e1.trans (e2.trans (e3.trans e'))))
     |some (.ok Ha),w=>
      intro z' H4 F4 e4 q4
      have w3:WPF X.K Xw F H (fJ kd vd D8 Ha) Q:=w
      clear w
      unfold fJ at w3
      cases CG:nK kd with
      |none=>rw[CG] at w3;exact w3.elim
      |some ka=>
       cases DI:nK D8 with
       |none=>rw[CG,DI] at w3;exact w3.elim
       |some kb=>
        rw[CG,DI] at w3
        have E:=e1.trans (e2.trans (e3.trans e4))
        have GC:H4 q=some (.dK []):=E.hh _ _ aA
        have EZ:F4 q=none:=by
         have:=E.old (a:=q) (o:= .dK []) aA (fun _ z=>nomatch z)
         rw[this]
         exact Same.free s.fh hq
        have e5:=fR CG (Den.mono (e2.trans (e3.trans e4)).ff q1)
        subst e5
        have e6:=fR DI (Den.mono e4.ff q3)
        subst e6
        have d2:=Den.mono (e3.trans e4).ff q2
        refine⟨_,_,DPut.k (k:=ka) GC (by rw[sizeLine_eq];decide),DPut.k (k:=kb) aA (by rw[sizeLine_eq];simp[putK]),?_⟩
        have ext:∀o1 o2:HO,Ext F H F4 (upd (upd H4 q o1) q o2):=fun o1 o2=>⟨fun c u hc=>by
         have qt:c≠q:=fun zz=>by rw[zz,hq] at hc;cases hc
         rw[ax qt,ax qt]
         exact(e0.trans E).hh c u hc,(e0.trans E).ff,fun c u hc=>by
         have qt:c≠q:=fun zz=>by rw[zz,EZ] at hc;cases hc
         rw[ax qt,ax qt]
         exact e4.fh c u hc,(e0.trans E).new⟩
        refine w3 q _ _ F4 (ext _ _) aA EZ hq ?_
        by_cases Dr:ka=kb
        ·subst Dr
         rw[if_pos rfl]
         exact⟨[z'],by simp[putK], .cons q4 .nil,rfl,show 1≤lim by decide⟩
        ·rw[if_neg Dr]
         exact⟨[z,z'],by simp[putK,Dr], .cons d2 (.cons q4 .nil),rfl,show 2≤lim by decide⟩
def kB(a b c d:DE):DE:=fun ρ=>(a ρ>>=fun x=>b ρ>>=fun y=>c ρ>>=fun x'=>d ρ>>=fun y'=>fJ x y x' y')>>=fun c=>M.ret c.d
theorem pU(hu:X.A.units+64<cLine)(hk:PD X Xw k δk)(hv:PD X Xw v δv)(yS:PD X Xw k' δk')(AW:PD X Xw v' δv'):PD X Xw (.Dict [some k,some k'] [v,v'] pos) (kB δk δv δk' δv'):=Ad (rB hu hk hv yS AW)
end
end L3
namespace L3
def CP(n:Nat)(δs:DA):DS:=fun ρ=>δs ρ>>=fun ds=>if ds.length≤lim then M.raise n else M.stuck
end L3
namespace K1
open PySem PySem.Spec L2 L3
open PyProof.Rows hiding St
def AZ:Nat→Nat
 |2=>2
 |3=>3
 |_=>0
def cB(cA:Nat→Addr)(n:Nat):Addr:=cA (AZ n)
def rZ(cA:Nat→Addr):List Addr:=[cA 0,cA 2,cA 3]
def GD:Nat→Int
 |0=>0
 |2=>1
 |_=>2
def zB(k:Nat):M D:=M.ret (.tup [.str "refused", .int (GD (AZ k))])
def rS:DS:=(a_ (de (dA fB (aC (dV 0) (aC (dC (.raw (.ty "int"))) aN))) (yH (dA fB (aC (dV 0) (aC (dC (.raw (.ty "bool"))) aN))))))
def bB:List D→M D:=bE 1 (rS)
def qk:DS:=(a_ (de (dA fB (aC (dV 0) (aC (dC (.raw (.ty "str"))) aN))) (de (d2 jw (dA br (aC (dV 0) aN)) (dC (.int 1))) (d2 (ic false) (dV 0) (dC (.str "abcdef"))))))
def bH:List D→M D:=bE 1 (qk)
def lL:DS:=(a_ (aT 0 (fun ρ=>(aC (dA br (aC (d2 bp (dV 0) (dC (.int 0))) aN)) aN) ρ>>=d9) ba (dA aU (aC (dV 2) (aC (dV 0) aN)))))
def bS:List D→M D:=bE 2 (lL)
def lN:DS:=(aI (eZ (da (d2 jw (dV 0) (dA dw aN))) (a_ (d2 fN (dC (.int 7)) (dV 1))) cn) (a_ (d2 cw (d2 va (dV 0) (d2 ie (dV 1) (dA br (aC (dV 0) aN)))) (d2 fN (dC (.int 6553)) (d2 lS (dV 1) (dA br (aC (dV 0) aN)))))))
def dY:List D→M D:=bE 2 (lN)
def ql:DS:=(aI (eZ (ju (b7 (bR (dA fB (aC (dV 0) (aC (dC (.raw (.ty "str"))) aN))))) (b7 (da (qF (fun i j=>decide (i≤j)) (fun i j=>decide (i≤j)) (dC (.int 1)) (dA br (aC (dV 0) aN)) (dC (.int 8)))))) (a_ (dC (.bl false))) cn) (a_ (dA allM (aC (aT 0 (fun ρ=>(dV 0) ρ>>=gh) ba (av 1 bH (aC (dV 0) aN))) aN))))
def dX:List D→M D:=bE 1 (ql)
def m_:DS:=(aI (eZ (ju (b7 (bR (dA fB (aC (dV 1) (aC (dC (.raw (.ty "tuple"))) aN))))) (da (d2 jx (dA br (aC (dV 1) aN)) (dC (.int 2))))) (a_ (dC (.bl false))) cn) (aI (eZ (ju (b7 (bR (av 1 bB (aC (d2 bp (dV 1) (dC (.int 0))) aN)))) (b7 (bR (av 1 bB (aC (d2 bp (dV 1) (dC (.int 1))) aN))))) (a_ (dC (.bl false))) cn) (a_ (de (qF (fun i j=>decide (i≤j)) (fun i j=>decide (i<j)) (dC (.int 0)) (d2 bp (dV 1) (dC (.int 0))) (dA br (aC (dV 0) aN))) (qF (fun i j=>decide (i≤j)) (fun i j=>decide (i<j)) (dC (.int 0)) (d2 bp (dV 1) (dC (.int 1))) (dA br (aC (d2 bp (dV 0) (dC (.int 0))) aN)))))))
def gp:List D→M D:=bE 2 (m_)
def qj:DS:=(aI (uu 1) (aI (fun ρ=>noex ((eE (putN 2) (fun ρ=>(aC (dA br (aC (dV 0) aN)) aN) ρ>>=d9) (dQ [2] (wC 1 (av 2 bS (aC (dV 0) (aC (dV 2) aN)))))) ρ)) (A0 1 (a_ (dV 1)))))
def du:List D→M D:=bE 3 (qj)
def jO:DS:=(aI (b9 3 (d2 ie (d2 cw (d2 fN (d2 ie (av 2 dY (aC (dV 0) (aC (dV 1) aN))) (dC (.int 2147483563))) (dC (.int 69069))) (d2 fN (dC (.int 104723)) (d2 cw (dV 1) (dC (.int 1))))) (dC (.int 2147483563)))) (aI (b9 3 (d2 ie (d2 cw (d2 fN (dV 3) (dV 3)) (d2 lS (dV 3) (dC (.int 3)))) (dC (.int 2147483399)))) (a_ (d2 ie (d2 lS (d2 ie (d2 cw (d2 fN (dV 3) (dV 3)) (d2 lS (dV 3) (dC (.int 7)))) (dC (.int 2147483647))) (dC (.int 11))) (dV 2)))))
def aD:List D→M D:=bE 4 (jO)
def lM:DS:=(aI (eZ (ju (b7 (bR (dA fB (aC (dV 0) (aC (dC (.raw (.ty "tuple"))) aN))))) (b7 (da (qF (fun i j=>decide (i≤j)) (fun i j=>decide (i≤j)) (dC (.int 1)) (dA br (aC (dV 0) aN)) (dC (.int 8)))))) (a_ (dC (.bl false))) cn) (aI (eZ (b7 (bR (dA allM (aC (aT 0 (dH (dV 0)) ba (av 1 dX (aC (dV 0) aN))) aN)))) (a_ (dC (.bl false))) cn) (a_ (dA allM (aC (aT 0 (dH (dV 0)) ba (d2 jw (dA br (aC (dV 0) aN)) (dA br (aC (d2 bp (dV 1) (dC (.int 0))) aN)))) aN)))))
def fc:List D→M D:=bE 1 (lM)
def qp:DS:=(eZ (b7 (bR (av 2 gp (aC (dV 0) (aC (dV 1) aN))))) (CP 2 (aC (dC (.str "a tuple (row, column) on the board is asked for")) aN)) cn)
def bX:List D→M D:=bE 2 (qp)
def qm:DS:=(aI (b9 3 (d2 cw (dC (.int 1)) (av 3 aD (aC (dV 0) (aC (dV 1) (aC (dV 2) aN)))))) (aI (b9 4 (d2 cw (dC (.int 1)) (av 3 aD (aC (dV 0) (aC (d2 cw (dV 1) (dC (.int 1))) (aC (dV 2) aN)))))) (aI (b9 5 (d2 i4 (dA dw (aC (dC (.str "ab")) (aC (dC (.str "abc")) (aC (dC (.str "aab")) (aC (dC (.str "fa")) aN))))) (av 3 aD (aC (dV 0) (aC (d2 cw (dV 1) (dC (.int 2))) (aC (dC (.int 4)) aN)))))) (aI (b9 6 (dA aU aN)) (aI (fun ρ=>noex ((eE (putN 7) (fun ρ=>(aC (dV 3) aN) ρ>>=d9) (dQ [7,8] (aI (b9 8 (aT 0 (fun ρ=>(aC (dV 4) aN) ρ>>=d9) ba (d2 eM (dV 6) (av 3 aD (aC (dV 1) (aC (d2 cw (d2 cw (d2 cw (dV 2) (dC (.int 3))) (d2 fN (dC (.int 7)) (dV 8))) (dV 0)) (aC (dA br (aC (dV 6) aN)) aN))))))) (b9 6 (d2 pd (dV 6) (dA aU (aC (dM kf joinM (dC (.str "")) (aC (dV 8) aN)) aN))))))) ρ)) (a_ (dV 6)))))))
def bq:List D→M D:=bE 9 (qm)
def oM:DS:=(eZ (b7 (bR (av 1 fc (aC (dV 0) aN)))) (CP 0 (aC (dC (.str "a tuple of 1 to 8 texts of 1 to 8 letters, all as long, is asked for")) aN)) cn)
def aO:List D→M D:=bE 1 (oM)
def lP:DS:=(a_ (dA gi (aC (aT 0 (dH (nr (dV 0) (oS (dV 1)) (oS (d2 cw (dV 3) (dC (.int 1)))))) ba (nr (dV 0) (oS (dV 3)) (oS (d2 cw (dV 5) (dC (.int 1)))))) aN)))
def bU:List D→M D:=bE 5 (lP)
def oO:DS:=(aI (uu 2) (aI (fun ρ=>noex ((eE (putN 3) (dH (dV 0)) (dQ [3] (oj 2 (dM kf joinM (dC (.str "")) (aC (aT 0 (fun ρ=>(dV 3) ρ>>=gh) ba (kC (dV 2) (dV 0) (dV 0))) aN))))) ρ)) (A0 2 (a_ (dA gi (aC (dV 2) aN))))))
def cu:List D→M D:=bE 4 (oO)
def qo:DS:=(aI (b9 1 (dA dw aN)) (aI (fun ρ=>noex ((eE (putN 2) (fun ρ=>(aC (dA br (aC (dV 0) aN)) aN) ρ>>=d9) (dQ [2] (b9 1 (d2 kG (dV 1) (aT 0 (fun ρ=>(aC (dA br (aC (d2 bp (dV 0) (dC (.int 0))) aN)) aN) ρ>>=d9) ba (dA aU (aC (dV 3) (aC (dV 0) aN)))))))) ρ)) (a_ (dV 1))))
def bW:List D→M D:=bE 3 (qo)
def mf:DS:=(eZ (b7 (bR (av 1 bH (aC (dV 0) aN)))) (CP 3 (aC (dC (.str "one of the letters a to f is asked for")) aN)) cn)
def cb:List D→M D:=bE 1 (mf)
def uD:DS:=(aI (b9 3 (d2 xx (d2 cw (d2 bp (dV 2) (dC (.int 0))) (dA br (aC (dV 1) aN))) (dC (.int 1)))) (aI (b9 4 (d2 xx (d2 cw (d2 bp (dV 2) (dC (.int 1))) (dA br (aC (d2 bp (dV 1) (dC (.int 0))) aN))) (dC (.int 1)))) (a_ (d2 jw (av 5 bU (aC (dV 0) (aC (d2 bp (dV 2) (dC (.int 0))) (aC (d2 bp (dV 2) (dC (.int 1))) (aC (dV 3) (aC (dV 4) aN)))))) (dV 1)))))
def dU:List D→M D:=bE 5 (uD)
def me:DS:=(a_ (dA aU (aC (av 3 aD (aC (dV 0) (aC (dV 1) (aC (dA br (aC (dV 2) aN)) aN)))) (aC (av 3 aD (aC (dV 0) (aC (d2 cw (dV 1) (dC (.int 1))) (aC (dA br (aC (d2 bp (dV 2) (dC (.int 0))) aN)) aN)))) aN))))
def bM:List D→M D:=bE 3 (me)
def uC:DS:=(aI (fE (av 1 aO (aC (dV 0) aN))) (aI (fE (av 2 bX (aC (dV 0) (aC (dA aU (aC (dV 1) (aC (dV 2) aN))) aN)))) (aI (fE (av 2 bX (aC (dV 0) (aC (dA aU (aC (dV 3) (aC (dV 4) aN))) aN)))) (aI (eZ (ju (da (d2 AR (dV 3) (dV 1))) (da (d2 AR (dV 4) (dV 2)))) (CP 2 (aC (dC (.str "the second cell is to be neither above the first nor left of it")) aN)) cn) (a_ (av 5 bU (aC (dV 0) (aC (dV 1) (aC (dV 2) (aC (dV 3) (aC (dV 4) aN)))))))))))
def cq:List D→M D:=bE 5 (uC)
def rR:DS:=(aI (fE (av 1 aO (aC (dV 0) aN))) (aI (fE (av 1 aO (aC (dV 1) aN))) (a_ (aT 0 (xn (av 1 du (aC (dV 0) aN))) (bR (av 3 dU (aC (dV 1) (aC (dV 2) (aC (dV 0) aN))))) (dV 0)))))
def cQ:List D→M D:=bE 2 (rR)
def oN:DS:=(aI (fE (av 1 aO (aC (dV 0) aN))) (aI (y4 1) (aI (fun ρ=>noex ((eE (putN 2) (fun ρ=>(dM kf joinM (dC (.str "")) (aC (dV 0) aN)) ρ>>=gh) (dQ [2] (eZ (A2 (da (d2 (pe true) (dV 2) (dV 1)))) (sT 1 (dV 2) (CA (d2 eM (dC (.str "abcdef")) (dA jB (aC (dV 1) aN))))) cn))) ρ)) (A0 1 (a_ (av 2 cu (aC (dV 0) (aC (dV 1) aN))))))))
def aF:List D→M D:=bE 3 (oN)
def uE:DS:=(aI (fE (av 1 aO (aC (dV 0) aN))) (aI (fE (av 1 cb (aC (dV 1) aN))) (aI (fE (av 1 cb (aC (dV 2) aN))) (a_ (av 2 cu (aC (dV 0) (aC (kB (dV 1) (dV 2) (dV 2) (dV 1)) aN)))))))
def cU:List D→M D:=bE 3 (uE)
def rQ:DS:=(a_ (d2 jw (av 1 aF (aC (dV 0) aN)) (av 1 aF (aC (dV 1) aN))))
def cP:List D→M D:=bE 2 (rQ)
def cG(K:W.Frag)(cA:Nat→Addr):DS:=(aI (b9 1 (dA dw (aC (dA (pw K (rZ cA)) (aC (dV 0) (aC (dC (.raw (.ref (cA 0)))) aN))) (aC (dA (pw K (rZ cA)) (aC (dV 0) (aC (dC (.raw (.ref (cA 2)))) aN))) (aC (dA (pw K (rZ cA)) (aC (dV 0) (aC (dC (.raw (.ref (cA 3)))) aN))) aN))))) (aI (eZ (ju (da (d2 jx (dM jy tB (dV 1) (aC (dC (.bl true)) aN)) (dC (.int 1)))) (b7 (bR (dA (pw K (rZ cA)) (aC (dV 0) (aC (dC (.raw (.ty "ValueError"))) aN)))))) (a_ (dA aU (aC (dC (.str "refused")) (aC (d1 zY (dC (.int 1))) aN)))) cn) (a_ (dA aU (aC (dC (.str "refused")) (aC (dM jy zI (dV 1) (aC (dC (.bl true)) aN)) aN))))))
def aQ(K:W.Frag)(cA:Nat→Addr):List D→M D:=bE 2 (cG K cA)
def jq:DS:=(aI (b9 1 (dC (.str ""))) (aI (uu 2) (aI (fun ρ=>noex ((eE (putN 3) (dH (dV 0)) (dQ [3,4] (aI (eE (putN 4) (fun ρ=>(dV 3) ρ>>=gh) (dQ [4] (b9 1 (d2 mC (dV 1) (d2 kI (dV 4) (dA pk (aC (d2 (ic true) (dV 4) (dV 1)) aN))))))) (oj 2 (dM kf joinM (dC (.str "")) (aC (aT 0 (fun ρ=>(dV 3) ρ>>=gh) ba (d2 eM (dC (.str "abcdef")) (dM kf fP (dV 2) (aC (dV 0) aN)))) aN)))))) ρ)) (A0 2 (a_ (dA gi (aC (dV 2) aN)))))))
def aW:List D→M D:=bE 5 (jq)
def lO:DS:=(wF (aI (eZ (da (d2 jw (dV 0) (dC (.int 0)))) (a_ (av 5 cq (aC (dV 1) (aC (d2 bp (dV 2) (dC (.int 0))) (aC (d2 bp (dV 2) (dC (.int 1))) (aC (d2 bp (dV 3) (dC (.int 0))) (aC (d2 bp (dV 3) (dC (.int 1))) aN))))))) cn) (aI (eZ (da (d2 AR (dV 0) (dC (.int 3)))) (a_ (yF (da (d2 jw (dV 0) (dC (.int 1)))) (av 2 cQ (aC (dV 1) (aC (dV 2) aN))) (av 1 aF (aC (dV 1) aN)))) cn) (a_ (yF (da (d2 jw (dV 0) (dC (.int 3)))) (av 2 cP (aC (dV 1) (aC (dV 2) aN))) (av 3 cU (aC (dV 1) (aC (dV 2) (aC (dV 3) aN)))))))) fun k=>noex (zB k))
def ai:List D→M D:=bE 5 (lO)
def jo:DS:=(aI (fun ρ=>noex ((eE (putN 1) (dH (dA aU (aC (dA aU (aC (dC (.int 9)) (aC (dC (.int 0)) aN))) (aC (dA aU (aC (dC (.int 0)) (aC (d1 zY (dC (.int 1))) aN))) (aC (dA aU (aC (dC .non) (aC (dC (.int 0)) aN))) (aC (dA aU (aC (dC (.int 0)) (aC (dC (.bl true)) aN))) (aC (dA aU (aC (dC (.str "0")) (aC (dC (.int 0)) aN))) aN))))))) (dQ [1] (aI (eZ (da (d2 jx (av 4 ai (aC (dC (.int 0)) (aC (dV 0) (aC (dV 1) (aC (dA aU (aC (dC (.int 0)) (aC (dC (.int 0)) aN))) aN))))) (dA aU (aC (dC (.str "refused")) (aC (dC (.int 1)) aN))))) (a_ (dC (.bl false))) cn) (eZ (da (d2 jx (av 4 ai (aC (dC (.int 0)) (aC (dV 0) (aC (dA aU (aC (dC (.int 0)) (aC (dC (.int 0)) aN))) (aC (dV 1) aN))))) (dA aU (aC (dC (.str "refused")) (aC (dC (.int 1)) aN))))) (a_ (dC (.bl false))) cn)))) ρ)) (aI (Cd [1] (fun ρ=>noex ((eE (putN 1) (dH (dA aU (aC (dC (.str "g")) (aC (dC (.str "")) (aC (dC (.str "ab")) (aC (dC .non) (aC (dC (.int 1)) (aC (dA dw (aC (dC (.str "a")) aN)) aN)))))))) (dQ [1] (aI (eZ (da (d2 jx (av 4 ai (aC (dC (.int 4)) (aC (dV 0) (aC (dV 1) (aC (dC .non) aN))))) (dA aU (aC (dC (.str "refused")) (aC (dC (.int 2)) aN))))) (a_ (dC (.bl false))) cn) (aI (eZ (da (d2 jx (av 4 ai (aC (dC (.int 4)) (aC (dV 0) (aC (dC (.str "a")) (aC (dV 1) aN))))) (dA aU (aC (dC (.str "refused")) (aC (dC (.int 2)) aN))))) (a_ (dC (.bl false))) cn) (aI (eZ (da (d2 jx (av 4 ai (aC (dC (.int 1)) (aC (dV 0) (aC (dV 1) (aC (dC .non) aN))))) (dA aU (aC (dC (.str "refused")) (aC (dC (.int 0)) aN))))) (a_ (dC (.bl false))) cn) (eZ (da (d2 jx (av 4 ai (aC (dC (.int 3)) (aC (dV 0) (aC (dV 1) (aC (dC .non) aN))))) (dA aU (aC (dC (.str "refused")) (aC (dC (.int 0)) aN))))) (a_ (dC (.bl false))) cn)))))) ρ))) (a_ (d2 jw (aT 0 (fun ρ=>(aC (dC (.int 5)) aN) ρ>>=d9) ba (av 4 ai (aC (dV 0) (aC (dA aU (aC (dC (.str "ab")) (aC (dC (.str "a")) aN))) (aC (dA aU (aC (dC .non) (aC (dC .non) aN))) (aC (dA aU (aC (dC .non) (aC (dC .non) aN))) aN)))))) (d2 zr (dA dw (aC (dA aU (aC (dC (.str "refused")) (aC (dC (.int 0)) aN))) aN)) (dC (.int 5)))))))
def bT:List D→M D:=bE 2 (jo)
def jP:DS:=(b9 1 (av 3 bq (aC (dV 0) (aC (dC (.int 0)) (aC (dC (.int 5)) aN)))))
def jQ:DS:=(b9 2 (av 3 bM (aC (dV 0) (aC (dC (.int 60)) (aC (dV 1) aN)))))
def jR:DS:=(b9 3 (av 3 bM (aC (dV 0) (aC (dC (.int 62)) (aC (dV 1) aN)))))
def jS:DS:=(b9 4 (de (d2 Dk (d2 bp (dV 2) (dC (.int 0))) (d2 bp (dV 3) (dC (.int 0)))) (d2 Dk (d2 bp (dV 2) (dC (.int 1))) (d2 bp (dV 3) (dC (.int 1))))))
def jT:DS:=(b9 5 (dA gi (aC (aT 0 (dH (nr (dV 1) (oS (d2 bp (dV 2) (dC (.int 0)))) (oS (d2 cw (d2 bp (dV 3) (dC (.int 0))) (dC (.int 1)))))) ba (nr (dV 0) (oS (d2 bp (dV 3) (dC (.int 1)))) (oS (d2 cw (d2 bp (dV 4) (dC (.int 1))) (dC (.int 1)))))) aN)))
def jU:DS:=(eZ (da (d2 jx (av 4 ai (aC (dC (.int 0)) (aC (dV 1) (aC (dV 2) (aC (dV 3) aN))))) (yF (bR (dV 4)) (dV 5) (dA aU (aC (dC (.str "refused")) (aC (dC (.int 1)) aN)))))) (a_ (dC (.bl false))) cn)
def jV:DS:=(fun ρ=>noex ((eE (putN 6) (dH (dA aU (aC (yF (bR (dV 4)) (dV 5) (dV 1)) (aC (av 3 bq (aC (dV 0) (aC (dC (.int 70)) (aC (dC (.int 3)) aN)))) aN)))) (dQ [6,7,8,9] (aI (uu 7) (aI (eE (p0 [8,9]) (xn (av 1 bW (aC (dV 1) aN))) (dQ [8,9] (eZ (da (d2 jw (dA gi (aC (aT 0 (dH (nr (dV 1) (oS (dV 8)) (oS (d2 cw (dV 8) (dA br (aC (dV 6) aN)))))) ba (nr (dV 0) (oS (dV 10)) (oS (d2 cw (dV 10) (dA br (aC (d2 bp (dV 7) (dC (.int 0))) aN)))))) aN)) (dV 6))) (oj 7 (dA aU (aC (dV 8) (aC (dV 9) aN)))) cn))) (eZ (A2 (da (d2 jx (av 4 ai (aC (dC (.int 1)) (aC (dV 1) (aC (dV 6) (aC (dC .non) aN))))) (dV 7)))) (a_ (dC (.bl false))) cn))))) ρ))
def jW:DS:=(b9 10 (av 3 bq (aC (dV 0) (aC (dC (.int 100)) (aC (dC (.int 3)) aN)))))
def jX:DS:=(eZ (da (d2 jx (av 4 ai (aC (dC (.int 2)) (aC (dV 1) (aC (dC .non) (aC (dC .non) aN))))) (av 1 aW (aC (dV 1) aN)))) (a_ (dC (.bl false))) cn)
def jY:DS:=(eZ (da (d2 jx (av 4 ai (aC (dC (.int 3)) (aC (dV 1) (aC (dV 10) (aC (dC .non) aN))))) (d2 jw (av 1 aW (aC (dV 1) aN)) (av 1 aW (aC (dV 10) aN))))) (a_ (dC (.bl false))) cn)
def iO:DS:=(b9 11 (dA dw (aC (d2 eM (dC (.str "abc")) (av 3 aD (aC (dV 0) (aC (dC (.int 130)) (aC (dC (.int 3)) aN))))) (aC (d2 eM (dC (.str "abcf")) (av 3 aD (aC (dV 0) (aC (dC (.int 131)) (aC (dC (.int 4)) aN))))) aN))))
def iP:DS:=(b9 12 (kB (d2 i4 (dV 11) (dC (.int 0))) (d2 i4 (dV 11) (dC (.int 1))) (d2 i4 (dV 11) (dC (.int 1))) (d2 i4 (dV 11) (dC (.int 0)))))
def iQ:DS:=(b9 7 (dA gi (aC (aT 0 (dH (dV 1)) ba (dM kf joinM (dC (.str "")) (aC (aT 0 (fun ρ=>(dV 0) ρ>>=gh) ba (kC (dV 14) (dV 0) (dV 0))) aN))) aN)))
def iR:DS:=(eZ (A2 (da (d2 jx (av 4 ai (aC (dC (.int 4)) (aC (dV 1) (aC (d2 i4 (dV 11) (dC (.int 0))) (aC (d2 i4 (dV 11) (dC (.int 1))) aN))))) (dV 7)))) (a_ (dC (.bl false))) cn)
def iS:DS:=(a_ (av 1 bT (aC (dV 1) aN)))
def jm:DS:=(aI jP (aI jQ (aI jR (aI jS (aI jT (aI jU (aI jV (aI jW (aI jX (aI jY (aI iO (aI iP (aI iQ (aI iR iS))))))))))))))
def gq:List D→M D:=bE 13 jm
def top(i:Nat):Stmt:=PySem.Challenge.pw_cellpatches_k76_parts.main.body.getD i (.Pass ⟨0,0,0,0⟩)
structure Bl (K:W.Frag) (mg:Str→Option Value) (base:Heap) (cv:Nat→Value) (cA:Nat→Addr) (Cp:Addr):Prop where
 len:mg "len"=none
 isinstance:mg "isinstance"=none
 all:mg "all"=none
 range:mg "range"=none
 str:mg "str"=none
 int:mg "int"=none
 bool:mg "bool"=none
 tuple:mg "tuple"=none
 ValueError:mg "ValueError"=none
 LETTERS:∃t,mg "LETTERS"=some (.str "abcdef" t)
 MOST_ROWS:∃t,mg "MOST_ROWS"=some (.int 8 t)
 MOST_COLUMNS:∃t,mg "MOST_COLUMNS"=some (.int 8 t)
 cls0:mg "NoBoard"=some (.ref (cA 0))
 cls2:mg "NoCell"=some (.ref (cA 2))
 cls3:mg "NoLetter"=some (.ref (cA 3))
 own0:OwnCls "NoBoard" (cA 0) [.type "ValueError", .type "Exception", .type "BaseException", .type "object"] "ValueError.__new__" mg base
 own2:OwnCls "NoCell" (cA 2) [.type "ValueError", .type "Exception", .type "BaseException", .type "object"] "ValueError.__new__" mg base
 own3:OwnCls "NoLetter" (cA 3) [.type "ValueError", .type "Exception", .type "BaseException", .type "object"] "ValueError.__new__" mg base
 cvE:∀n,cv n= .ref (cB cA n)
 top:mg "PatchError"=some (.ref Cp)
 exm:∀n,PySem.W.exmOne K (cv n) (.ref Cp)=some true
 exs:∀C∈rZ cA,ExcC K C
 kit:∀n m,n∈[0,2,3]→m∈[0,2,3]→PySem.W.kitOne K (.ref (cA n)) (.ref (cA m))=some (decide (n=m))
 kitV:∀n,n∈[0,2,3]→PySem.W.kitOne K (.ref (cA n)) (.type "ValueError")=some true
section
variable{P:Program}{w:World}{K:W.Frag}{mg:Str→Option Value}{base:Heap}{cv:Nat→Value}{cA:Nat→Addr}{Cp:Addr}{f:Addr}
abbrev g6:Stmt:=top 9
def kW:List Str:=["thing"]
def lb:List Str:=["thing"]
theorem qb:FnScope kW lb (ag g6):=⟨rfl,rfl,rfl,by decide+kernel,rfl,by decide+kernel,by decide+kernel⟩
theorem pP(B:Bl K mg base cv cA Cp)(T:bD K mg "is_whole" g6 f):au P w K mg base cv 1 "is_whole" 1 (bB):=
 aB (N:=kW) (ps:=lb) T qb (fun _ _ _ _ _ _ us hl=>match us,hl with | [_],_=>rfl) fun a5 A outer s H E hr=>
  (ar (az (lj (jb rfl B.isinstance rfl (aa (ae (pv 0)) (aa (lq rfl B.int rfl) af))) (n8 (Ac (jb rfl B.isinstance rfl (aa (ae (pv 0)) (aa (lq rfl B.bool rfl) af))))))))
abbrev gc:Stmt:=top 10
def jD:List Str:=["thing"]
def jI:List Str:=["thing"]
theorem om:FnScope jD jI (ag gc):=⟨rfl,rfl,rfl,by decide+kernel,rfl,by decide+kernel,by decide+kernel⟩
theorem nP(B:Bl K mg base cv cA Cp)(T:bD K mg "is_letter" gc f):au P w K mg base cv 1 "is_letter" 1 (bH):=
 aB (N:=jD) (ps:=jI) T om (fun _ _ _ _ _ _ us hl=>match us,hl with | [_],_=>rfl) fun a5 A outer s H E hr=>
  (ar (az (lj (jb rfl B.isinstance rfl (aa (ae (pv 0)) (aa (lq rfl B.str rfl) af))) (lj (mV hr.units (bO rfl B.len (aa (ae (pv 0)) af)) aj) (n8 (Aa (ae (pv 0)) (sL rfl B.LETTERS (by decide))))))))
abbrev c7:Stmt:=top 17
def cW:List Str:=["board","row"]
def fX:List Str:=["board","row"]
theorem j7:FnScope cW fX (ag c7):=⟨rfl,rfl,rfl,by decide+kernel,rfl,by decide+kernel,by decide+kernel⟩
theorem j3(B:Bl K mg base cv cA Cp)(T:bD K mg "cells_of_row" c7 f):au P w K mg base cv 1 "cells_of_row" 2 (bS):=
 aB (N:=cW) (ps:=fX) T j7 (fun _ _ _ _ _ _ us hl=>match us,hl with | [_,_],_=>rfl) fun a5 A outer s H E hr=>
  (ar (az (cg (tn:=["column"]) (n:=0) (bj (N:=cW) (osc:=(ag c7)) rfl rfl (by decide+kernel)) rfl rfl (cS rfl B.range (aa (bO rfl B.len (aa (bo (ae (pv 0)) aj) af)) af)) (fun _ _ _ _ _ _ _=>b0 (show List.Nodup (((["column"]:List Str))++bY ["column"] cW) by decide+kernel) rfl rfl) (fun _ _ _ _ _ _=>bK) (fun _ _ _ _ _ _=>(aV (aa (ae (pv 2)) (aa (ae (pv 0)) af)))))))
abbrev c8:Stmt:=top 20
def cX:List Str:=["board","top","left","low","right"]
def fZ:List Str:=["board","top","left","low","right"]
theorem j8:FnScope cX fZ (ag c8):=⟨rfl,rfl,rfl,by decide+kernel,rfl,by decide+kernel,by decide+kernel⟩
theorem j5(B:Bl K mg base cv cA Cp)(T:bD K mg "part_between" c8 f):au P w K mg base cv 1 "part_between" 5 (bU):=
 aB (N:=cX) (ps:=fZ) T j8 (fun _ _ _ _ _ _ us hl=>match us,hl with | [_,_,_,_,_],_=>rfl) fun a5 A outer s H E hr=>
  (ar (az (eV rfl B.tuple rfl (aa (cg (tn:=["row"]) (n:=0) (bj (N:=cX) (osc:=(ag c8)) rfl rfl (by decide+kernel)) rfl rfl (cZ (mW (ae (pv 0)) (b8 (ae (pv 1))) (b8 (bN (ae (pv 3)) aj)))) (fun _ _ _ _ _ _ _=>b0 (show List.Nodup (((["row"]:List Str))++bY ["row"] cX) by decide+kernel) rfl rfl) (fun _ _ _ _ _ _=>bK) (fun _ _ _ _ _ _=>(mW (ae (pv 0)) (b8 (ae (pv 3))) (b8 (bN (ae (pv 5)) aj))))) af))))
abbrev dR:Stmt:=top 22
def dJ:List Str:=["board","names","told","row"]
def iE:List Str:=["board","names"]
theorem eJ:FnScope dJ iE (ag dR):=⟨rfl,rfl,rfl,by decide+kernel,rfl,by decide+kernel,by decide+kernel⟩
theorem lY(B:Bl K mg base cv cA Cp)(T:bD K mg "with_names" dR f):au P w K mg base cv 1 "with_names" 2 (cu):=
 aB (N:=dJ) (ps:=iE) T eJ (fun _ _ _ _ _ _ us hl=>match us,hl with | [_,_],_=>rfl) fun a5 A outer s H E hr=>
  (aw (ki eJ.nd rfl (by first | exact .inl rfl | exact .inr rfl)) (aw (dP (c4 PassesOwn.never rfl (cZ (ae (pv 0))) (bZ eJ.nd rfl (by first | exact .inl rfl | exact .inr rfl)) cM (cj (ar (n_ (pv 2) (iF aP (aa (cg (tn:=["sign"]) (n:=0) (bj (N:=dJ) (osc:=(ag dR)) rfl rfl (by decide+kernel)) rfl rfl (gy (ae (pv 3))) (fun _ _ _ _ _ _ _=>b0 (show List.Nodup (((["sign"]:List Str))++bY ["sign"] dJ) by decide+kernel) rfl rfl) (fun _ _ _ _ _ _=>bK) (fun _ _ _ _ _ _=>(sG hr.units (ae (pv 2)) (ae (pv 0)) (ae (pv 0)) ⟨rfl,rfl,rfl,rfl⟩))) af))))))) (ar (kh (i:=2) (az (eV rfl B.tuple rfl (aa (ae (pv 2)) af)))))))
abbrev g7:Stmt:=top 29
def kX:List Str:=["_law_script","_law_k"]
def lg:List Str:=["_law_script","_law_k"]
theorem qc:FnScope kX lg (ag g7):=⟨rfl,rfl,rfl,by decide+kernel,rfl,by decide+kernel,by decide+kernel⟩
theorem pQ(B:Bl K mg base cv cA Cp)(T:bD K mg "_law_cell" g7 f):au P w K mg base cv 1 "_law_cell" 2 (dY):=
 aB (N:=kX) (ps:=lg) T qc (fun _ _ _ _ _ _ us hl=>match us,hl with | [_,_],_=>rfl) fun a5 A outer s H E hr=>
  (aw (bt (pZ hr.units (ae (pv 0)) (g0 af)) (ar (az (g4 aj (ae (pv 1))))) aR) (ar (az (bN (Ab (ae (pv 0)) (jc (ae (pv 1)) (bO rfl B.len (aa (ae (pv 0)) af)))) (g4 aj (nZ (ae (pv 1)) (bO rfl B.len (aa (ae (pv 0)) af))))))))
abbrev ez:Stmt:=top 32
def eo:List Str:=["_law_board_here","_law_found","_law_row"]
def jK:List Str:=["_law_board_here"]
theorem dS:FnScope eo jK (ag ez):=⟨rfl,rfl,rfl,by decide+kernel,rfl,by decide+kernel,by decide+kernel⟩
theorem nR(B:Bl K mg base cv cA Cp)(T:bD K mg "_law_cells" ez f):au P w K mg base cv 1 "_law_cells" 1 (bW):=
 aB (N:=eo) (ps:=jK) T dS (fun _ _ _ _ _ _ us hl=>match us,hl with | [_],_=>rfl) fun a5 A outer s H E hr=>
  (aw (bb dS.nd rfl (by first | exact .inl rfl | exact .inr rfl) (g0 af)) (aw (dP (c4 PassesOwn.never rfl (cS rfl B.range (aa (bO rfl B.len (aa (ae (pv 0)) af)) af)) (bZ dS.nd rfl (by first | exact .inl rfl | exact .inr rfl)) cM (cj (ar (bb dS.nd rfl (by first | exact .inl rfl | exact .inr rfl) (x9 (ae (pv 1)) (cg (tn:=["_law_column"]) (n:=0) (bj (N:=eo) (osc:=(ag ez)) rfl rfl (by decide+kernel)) rfl rfl (cS rfl B.range (aa (bO rfl B.len (aa (bo (ae (pv 0)) aj) af)) af)) (fun _ _ _ _ _ _ _=>b0 (show List.Nodup (((["_law_column"]:List Str))++bY ["_law_column"] eo) by decide+kernel) rfl rfl) (fun _ _ _ _ _ _=>bK) (fun _ _ _ _ _ _=>(aV (aa (ae (pv 3)) (aa (ae (pv 0)) af))))))))))) (ar (az (ae (pv 1))))))
abbrev dj:Stmt:=top 34
def eP:List Str:=["_law_e","_law_flags"]
def eQ:List Str:=["_law_e"]
theorem eA:FnScope eP eQ (ag dj):=⟨rfl,rfl,rfl,by decide+kernel,rfl,by decide+kernel,by decide+kernel⟩
theorem iz(B:Bl K mg base cv cA Cp)(T:bD K mg "_law_refused" dj f):j9 P w K mg base cv 1 "_law_refused" 1 (aQ K cA):=
 qD (N:=eP) (ps:=eQ) T eA (fun _ _ _ _ _ _ us hl=>match us,hl with | [_],_=>rfl) fun a5 A outer s H hr=>
  (aw (bb eA.nd rfl (by first | exact .inl rfl | exact .inr rfl) (g0 (aa (n4 B.exs rfl B.isinstance rfl (aa (ae (pv 0)) (aa (nX rfl B.cls0) af))) (aa (n4 B.exs rfl B.isinstance rfl (aa (ae (pv 0)) (aa (nX rfl B.cls2) af))) (aa (n4 B.exs rfl B.isinstance rfl (aa (ae (pv 0)) (aa (nX rfl B.cls3) af))) af))))) (aw (bt (PDW.t (jd (eW hr.units (z9 (ae (pv 1)) (aa cY af)) aj) (gz (cN (cz (n4 B.exs rfl B.isinstance rfl (aa (ae (pv 0)) (aa (lq rfl B.ValueError rfl) af)))))))) (ar (az (aV (aa aP (aa (vT aj) af))))) aR) (ar (az (aV (aa aP (aa (z_ (ae (pv 1)) (aa cY af)) af)))))))
abbrev cF:Stmt:=top 36
def cy:List Str:=["_law_board_here","_law_met","_law_found","_law_row","_law_sign"]
def eS:List Str:=["_law_board_here"]
theorem bw:FnScope cy eS (ag cF):=⟨rfl,rfl,rfl,by decide+kernel,rfl,by decide+kernel,by decide+kernel⟩
theorem iB(B:Bl K mg base cv cA Cp)(T:bD K mg "_law_relettered" cF f):au P w K mg base cv 1 "_law_relettered" 1 (aW):=
 aB (N:=cy) (ps:=eS) T bw (fun _ _ _ _ _ _ us hl=>match us,hl with | [_],_=>rfl) fun a5 A outer s H E hr=>
  (aw (bb bw.nd rfl (by first | exact .inl rfl | exact .inr rfl) aP) (aw (ki bw.nd rfl (by first | exact .inl rfl | exact .inr rfl)) (aw (dP (c4 PassesOwn.never rfl (cZ (ae (pv 0))) (bZ bw.nd rfl (by first | exact .inl rfl | exact .inr rfl)) cM (cj (aw (c4 PassesOwn.never rfl (gy (ae (pv 3))) (bZ bw.nd rfl (by first | exact .inl rfl | exact .inr rfl)) cM (cj (ar (bb bw.nd rfl (by first | exact .inl rfl | exact .inr rfl) (xY (ae (pv 1)) (yc (ae (pv 4)) (ya rfl B.int rfl (aa (uk (ae (pv 4)) (ae (pv 1))) af)))))))) (ar (n_ (pv 2) (iF aP (aa (cg (tn:=["_law_sign"]) (n:=0) (bj (N:=cy) (osc:=(ag cF)) rfl rfl (by decide+kernel)) rfl rfl (gy (ae (pv 3))) (fun _ _ _ _ _ _ _=>b0 (show List.Nodup (((["_law_sign"]:List Str))++bY ["_law_sign"] cy) by decide+kernel) rfl rfl) (fun _ _ _ _ _ _=>bK) (fun _ _ _ _ _ _=>(ll aP (vS (ae (pv 2)) (aa (ae (pv 0)) af))))) af)))))))) (ar (kh (i:=2) (az (eV rfl B.tuple rfl (aa (ae (pv 2)) af))))))))
abbrev iH:Stmt:=top 11
def ir:List Str:=["thing"]
def pT:List Str:=["thing"]
theorem uv:FnScope ir pT (ag iH):=⟨rfl,rfl,rfl,by decide+kernel,rfl,by decide+kernel,by decide+kernel⟩
theorem ub(B:Bl K mg base cv cA Cp)(fG:au P w K mg base cv 1 "is_letter" 1 bH)(T:bD K mg "is_row" iH f):au P w K mg base cv 2 "is_row" 1 (dX):=
 aB (N:=ir) (ps:=pT) T uv (fun _ _ _ _ _ _ us hl=>match us,hl with | [_],_=>rfl) fun a5 A outer s H E hr=>
  (aw (bt (PDW.t (jd (cN (cz (jb rfl B.isinstance rfl (aa (ae (pv 0)) (aa (lq rfl B.str rfl) af))))) (gz (cN (we k8 k8 aj (bO rfl B.len (aa (ae (pv 0)) af)) (sI rfl B.MOST_COLUMNS)))))) (ar (az cY)) aR) (ar (az (rA rfl rfl B.all rfl (aa (cg (tn:=["sign"]) (n:=0) (bj (N:=ir) (osc:=(ag iH)) rfl rfl (by decide+kernel)) rfl rfl (gy (ae (pv 0))) (fun _ _ _ _ _ _ _=>b0 (show List.Nodup (((["sign"]:List Str))++bY ["sign"] ir) by decide+kernel) rfl rfl) (fun _ _ _ _ _ _=>bK) (fun _ _ _ _ _ _=>(aZ fG (hr.mono (by decide)) rfl d8 (aa (ae (pv 0)) af) rfl))) af)))))
abbrev ji:Stmt:=top 13
def mJ:List Str:=["board","thing"]
def mR:List Str:=["board","thing"]
theorem rG:FnScope mJ mR (ag ji):=⟨rfl,rfl,rfl,by decide+kernel,rfl,by decide+kernel,by decide+kernel⟩
theorem rk(B:Bl K mg base cv cA Cp)(kr:au P w K mg base cv 1 "is_whole" 1 bB)(T:bD K mg "is_cell" ji f):au P w K mg base cv 2 "is_cell" 2 (gp):=
 aB (N:=mJ) (ps:=mR) T rG (fun _ _ _ _ _ _ us hl=>match us,hl with | [_,_],_=>rfl) fun a5 A outer s H E hr=>
  (aw (bt (PDW.t (jd (cN (cz (jb rfl B.isinstance rfl (aa (ae (pv 1)) (aa (lq rfl B.tuple rfl) af))))) (gz (eW hr.units (bO rfl B.len (aa (ae (pv 1)) af)) aj)))) (ar (az cY)) aR) (aw (bt (PDW.t (jd (cN (cz (aZ kr (hr.mono (by decide)) rfl aX (aa (bo (ae (pv 1)) aj) af) rfl))) (gz (cN (cz (aZ kr (hr.mono (by decide)) rfl aX (aa (bo (ae (pv 1)) aj) af) rfl)))))) (ar (az cY)) aR) (ar (az (lj (vR k8 vM aj (bo (ae (pv 1)) aj) (bO rfl B.len (aa (ae (pv 0)) af))) (n8 (vR k8 vM aj (bo (ae (pv 1)) aj) (bO rfl B.len (aa (bo (ae (pv 0)) aj) af)))))))))
abbrev eG:Stmt:=top 16
def gH:List Str:=["thing"]
def gL:List Str:=["thing"]
theorem lF:FnScope gH gL (ag eG):=⟨rfl,rfl,rfl,by decide+kernel,rfl,by decide+kernel,by decide+kernel⟩
theorem k7(B:Bl K mg base cv cA Cp)(fG:au P w K mg base cv 1 "is_letter" 1 bH)(T:bD K mg "need_letter" eG f):au P w K mg base cv 2 "need_letter" 1 (cb):=
 aB (N:=gH) (ps:=gL) T lF (fun _ _ _ _ _ _ us hl=>match us,hl with | [_],_=>rfl) fun a5 A outer s H E hr=>
  (ar (bt (cN (cz (aZ fG (hr.mono (by decide)) rfl aX (aa (ae (pv 0)) af) rfl))) (ar (gA B.own3 PySem.F.excBase_ValueError rfl rfl (B.cvE 3) sC (aa aP af))) aR))
abbrev gb:Stmt:=top 18
def jC:List Str:=["board","found","row"]
def jH:List Str:=["board"]
theorem fq:FnScope jC jH (ag gb):=⟨rfl,rfl,rfl,by decide+kernel,rfl,by decide+kernel,by decide+kernel⟩
theorem nO(B:Bl K mg base cv cA Cp)(kq:au P w K mg base cv 1 "cells_of_row" 2 bS)(T:bD K mg "all_cells" gb f):au P w K mg base cv 2 "all_cells" 1 (du):=
 aB (N:=jC) (ps:=jH) T fq (fun _ _ _ _ _ _ us hl=>match us,hl with | [_],_=>rfl) fun a5 A outer s H E hr=>
  (aw (ki fq.nd rfl (by first | exact .inl rfl | exact .inr rfl)) (aw (dP (c4 PassesOwn.never rfl (cS rfl B.range (aa (bO rfl B.len (aa (ae (pv 0)) af)) af)) (bZ fq.nd rfl (by first | exact .inl rfl | exact .inr rfl)) cM (cj (ar (yl (pv 1) (aZ kq (hr.mono (by decide)) rfl d8 (aa (ae (pv 0)) (aa (ae (pv 2)) af)) rfl)))))) (ar (kh (i:=1) (az (ae (pv 1)))))))
abbrev jj:Stmt:=top 21
def mK:List Str:=["board","part","cell","low","right"]
def mS:List Str:=["board","part","cell"]
theorem g8:FnScope mK mS (ag jj):=⟨rfl,rfl,rfl,by decide+kernel,rfl,by decide+kernel,by decide+kernel⟩
theorem rl(B:Bl K mg base cv cA Cp)(dW:au P w K mg base cv 1 "part_between" 5 bU)(T:bD K mg "lies_at" jj f):au P w K mg base cv 2 "lies_at" 3 (dU):=
 aB (N:=mK) (ps:=mS) T g8 (fun _ _ _ _ _ _ us hl=>match us,hl with | [_,_,_],_=>rfl) fun a5 A outer s H E hr=>
  (aw (bb g8.nd rfl (by first | exact .inl rfl | exact .inr rfl) (vU (bN (bo (ae (pv 2)) aj) (bO rfl B.len (aa (ae (pv 1)) af))) aj)) (aw (bb g8.nd rfl (by first | exact .inl rfl | exact .inr rfl) (vU (bN (bo (ae (pv 2)) aj) (bO rfl B.len (aa (bo (ae (pv 1)) aj) af))) aj)) (ar (az (mV hr.units (aZ dW (hr.mono (by decide)) rfl aX (aa (ae (pv 0)) (aa (bo (ae (pv 2)) aj) (aa (bo (ae (pv 2)) aj) (aa (ae (pv 3)) (aa (ae (pv 4)) af))))) rfl) (ae (pv 1)))))))
abbrev gf:Stmt:=top 30
def jE:List Str:=["_law_script","_law_k","_law_many","_law_cell_here"]
def jL:List Str:=["_law_script","_law_k","_law_many"]
theorem ft:FnScope jE jL (ag gf):=⟨rfl,rfl,rfl,by decide+kernel,rfl,by decide+kernel,by decide+kernel⟩
theorem nS(B:Bl K mg base cv cA Cp)(qC:au P w K mg base cv 1 "_law_cell" 2 dY)(T:bD K mg "_law_drawn" gf f):au P w K mg base cv 2 "_law_drawn" 3 (aD):=
 aB (N:=jE) (ps:=jL) T ft (fun _ _ _ _ _ _ us hl=>match us,hl with | [_,_,_],_=>rfl) fun a5 A outer s H E hr=>
  (aw (bb ft.nd rfl (by first | exact .inl rfl | exact .inr rfl) (jc (bN (g4 (jc (aZ qC (hr.mono (by decide)) rfl aX (aa (ae (pv 0)) (aa (ae (pv 1)) af)) rfl) aj) aj) (g4 aj (bN (ae (pv 1)) aj))) aj)) (aw (bb ft.nd rfl (by first | exact .inl rfl | exact .inr rfl) (jc (bN (g4 (ae (pv 3)) (ae (pv 3))) (nZ (ae (pv 3)) aj)) aj)) (ar (az (jc (nZ (jc (bN (g4 (ae (pv 3)) (ae (pv 3))) (nZ (ae (pv 3)) aj)) aj) aj) (ae (pv 2)))))))
abbrev d_:Stmt:=top 12
def dh:List Str:=["thing"]
def la:List Str:=["thing"]
theorem qa:FnScope dh la (ag d_):=⟨rfl,rfl,rfl,by decide+kernel,rfl,by decide+kernel,by decide+kernel⟩
theorem pO(B:Bl K mg base cv cA Cp)(uO:au P w K mg base cv 2 "is_row" 1 dX)(T:bD K mg "is_board" d_ f):au P w K mg base cv 3 "is_board" 1 (fc):=
 aB (N:=dh) (ps:=la) T qa (fun _ _ _ _ _ _ us hl=>match us,hl with | [_],_=>rfl) fun a5 A outer s H E hr=>
  (aw (bt (PDW.t (jd (cN (cz (jb rfl B.isinstance rfl (aa (ae (pv 0)) (aa (lq rfl B.tuple rfl) af))))) (gz (cN (we k8 k8 aj (bO rfl B.len (aa (ae (pv 0)) af)) (sI rfl B.MOST_ROWS)))))) (ar (az cY)) aR) (aw (bt (cN (cz (rA rfl rfl B.all rfl (aa (cg (tn:=["row"]) (n:=0) (bj (N:=dh) (osc:=(ag d_)) rfl rfl (by decide+kernel)) rfl rfl (cZ (ae (pv 0))) (fun _ _ _ _ _ _ _=>b0 (show List.Nodup (((["row"]:List Str))++bY ["row"] dh) by decide+kernel) rfl rfl) (fun _ _ _ _ _ _=>bK) (fun _ _ _ _ _ _=>(aZ uO (hr.mono (by decide)) rfl d8 (aa (ae (pv 0)) af) rfl))) af)))) (ar (az cY)) aR) (ar (az (rA rfl rfl B.all rfl (aa (cg (tn:=["row"]) (n:=0) (bj (N:=dh) (osc:=(ag d_)) rfl rfl (by decide+kernel)) rfl rfl (cZ (ae (pv 0))) (fun _ _ _ _ _ _ _=>b0 (show List.Nodup (((["row"]:List Str))++bY ["row"] dh) by decide+kernel) rfl rfl) (fun _ _ _ _ _ _=>bK) (fun _ _ _ _ _ _=>(mV hr.units (bO rfl B.len (aa (ae (pv 0)) af)) (bO rfl B.len (aa (bo (ae (pv 1)) aj) af))))) af))))))
abbrev gg:Stmt:=top 15
def jF:List Str:=["board","thing"]
def jM:List Str:=["board","thing"]
theorem oo:FnScope jF jM (ag gg):=⟨rfl,rfl,rfl,by decide+kernel,rfl,by decide+kernel,by decide+kernel⟩
theorem nT(B:Bl K mg base cv cA Cp)(tj:au P w K mg base cv 2 "is_cell" 2 gp)(T:bD K mg "need_cell" gg f):au P w K mg base cv 3 "need_cell" 2 (bX):=
 aB (N:=jF) (ps:=jM) T oo (fun _ _ _ _ _ _ us hl=>match us,hl with | [_,_],_=>rfl) fun a5 A outer s H E hr=>
  (ar (bt (cN (cz (aZ tj (hr.mono (by decide)) rfl aX (aa (ae (pv 0)) (aa (ae (pv 1)) af)) rfl))) (ar (gA B.own2 PySem.F.excBase_ValueError rfl rfl (B.cvE 2) sC (aa aP af))) aR))
abbrev eu:Stmt:=top 31
def en:List Str:=["_law_script","_law_at","_law_most","_law_rows","_law_wide","_law_alphabet","_law_found","_law_row","_law_signs"]
def jJ:List Str:=["_law_script","_law_at","_law_most"]
theorem bJ:FnScope en jJ (ag eu):=⟨rfl,rfl,rfl,by decide+kernel,rfl,by decide+kernel,by decide+kernel⟩
set_option maxHeartbeats 4000000 in
theorem nQ(B:Bl K mg base cv cA Cp)(bg:au P w K mg base cv 2 "_law_drawn" 3 aD)(T:bD K mg "_law_board" eu f):au P w K mg base cv 3 "_law_board" 3 (bq):=
 aB (N:=en) (ps:=jJ) T bJ (fun _ _ _ _ _ _ us hl=>match us,hl with | [_,_,_],_=>rfl) fun a5 A outer s H E hr=>
  (aw (bb bJ.nd rfl (by first | exact .inl rfl | exact .inr rfl) (bN aj (aZ bg (hr.mono (by decide)) rfl aX (aa (ae (pv 0)) (aa (ae (pv 1)) (aa (ae (pv 2)) af))) rfl))) (aw (bb bJ.nd rfl (by first | exact .inl rfl | exact .inr rfl) (bN aj (aZ bg (hr.mono (by decide)) rfl aX (aa (ae (pv 0)) (aa (bN (ae (pv 1)) aj) (aa (ae (pv 2)) af))) rfl))) (aw (bb bJ.nd rfl (by first | exact .inl rfl | exact .inr rfl) (gZ (g0 (aa aP (aa aP (aa aP (aa aP af))))) (aZ bg (hr.mono (by decide)) rfl aX (aa (ae (pv 0)) (aa (bN (ae (pv 1)) aj) (aa aj af))) rfl))) (aw (bb bJ.nd rfl (by first | exact .inl rfl | exact .inr rfl) (aV af)) (aw (dP (c4 PassesOwn.never rfl (cS rfl B.range (aa (ae (pv 3)) af)) (bZ bJ.nd rfl (by first | exact .inl rfl | exact .inr rfl)) cM (cj (aw (pY (tn:=["_law_k"]) (n:=0) bJ.nd rfl (by first | exact .inl rfl | exact .inr rfl) (bj (N:=en) (osc:=(ag eu)) rfl rfl (by decide+kernel)) rfl rfl (cS rfl B.range (aa (ae (pv 4)) af)) (fun _ _ _ _ _ _ _=>b0 (show List.Nodup (((["_law_k"]:List Str))++bY ["_law_k"] en) by decide+kernel) rfl rfl) (fun _ _ _ _ _ _=>bK) (fun _ _ _ _ _ _=>(ll (ae (pv 6)) (aZ bg (hr.mono (by decide)) rfl d8 (aa (ae (pv 1)) (aa (bN (bN (bN (ae (pv 2)) aj) (g4 aj (ae (pv 8)))) (ae (pv 0))) (aa (bO rfl B.len (aa (ae (pv 6)) af)) af))) rfl)))) (ar (bb bJ.nd rfl (by first | exact .inl rfl | exact .inr rfl) (x_ (ae (pv 6)) (aV (aa (iF aP (aa (ae (pv 8)) af)) af))))))))) (ar (az (ae (pv 6)))))))))
abbrev eF:Stmt:=top 33
def gG:List Str:=["_law_script","_law_at","_law_board_here"]
def gK:List Str:=["_law_script","_law_at","_law_board_here"]
theorem lE:FnScope gG gK (ag eF):=⟨rfl,rfl,rfl,by decide+kernel,rfl,by decide+kernel,by decide+kernel⟩
theorem k6(B:Bl K mg base cv cA Cp)(bg:au P w K mg base cv 2 "_law_drawn" 3 aD)(T:bD K mg "_law_cell_in" eF f):au P w K mg base cv 3 "_law_cell_in" 3 (bM):=
 aB (N:=gG) (ps:=gK) T lE (fun _ _ _ _ _ _ us hl=>match us,hl with | [_,_,_],_=>rfl) fun a5 A outer s H E hr=>
  (ar (az (aV (aa (aZ bg (hr.mono (by decide)) rfl aX (aa (ae (pv 0)) (aa (ae (pv 1)) (aa (bO rfl B.len (aa (ae (pv 2)) af)) af))) rfl) (aa (aZ bg (hr.mono (by decide)) rfl aX (aa (ae (pv 0)) (aa (bN (ae (pv 1)) aj) (aa (bO rfl B.len (aa (bo (ae (pv 2)) aj) af)) af))) rfl) af)))))
abbrev fm:Stmt:=top 14
def iu:List Str:=["thing"]
def iC:List Str:=["thing"]
theorem l5:FnScope iu iC (ag fm):=⟨rfl,rfl,rfl,by decide+kernel,rfl,by decide+kernel,by decide+kernel⟩
theorem lW(B:Bl K mg base cv cA Cp)(qB:au P w K mg base cv 3 "is_board" 1 fc)(T:bD K mg "need_board" fm f):au P w K mg base cv 4 "need_board" 1 (aO):=
 aB (N:=iu) (ps:=iC) T l5 (fun _ _ _ _ _ _ us hl=>match us,hl with | [_],_=>rfl) fun a5 A outer s H E hr=>
  (ar (bt (cN (cz (aZ qB (hr.mono (by decide)) rfl aX (aa (ae (pv 0)) af) rfl))) (ar (gA B.own0 PySem.F.excBase_ValueError rfl rfl (B.cvE 0) sC (aa aP af))) aR))
abbrev jh:Stmt:=top 23
def mI:List Str:=["board","top","left","low","right"]
def mQ:List Str:=["board","top","left","low","right"]
theorem rF:FnScope mI mQ (ag jh):=⟨rfl,rfl,rfl,by decide+kernel,rfl,by decide+kernel,by decide+kernel⟩
theorem rj(B:Bl K mg base cv cA Cp)(bG:au P w K mg base cv 4 "need_board" 1 aO)(jr:au P w K mg base cv 3 "need_cell" 2 bX)(dW:au P w K mg base cv 1 "part_between" 5 bU)(T:bD K mg "cut_out" jh f):au P w K mg base cv 5 "cut_out" 5 (cq):=
 aB (N:=mI) (ps:=mQ) T rF (fun _ _ _ _ _ _ us hl=>match us,hl with | [_,_,_,_,_],_=>rfl) fun a5 A outer s H E hr=>
  (aw (dO (aZ bG (hr.mono (by decide)) rfl aX (aa (ae (pv 0)) af) rfl)) (aw (dO (aZ jr (hr.mono (by decide)) rfl aX (aa (ae (pv 0)) (aa (aV (aa (ae (pv 1)) (aa (ae (pv 2)) af))) af)) rfl)) (aw (dO (aZ jr (hr.mono (by decide)) rfl aX (aa (ae (pv 0)) (aa (aV (aa (ae (pv 3)) (aa (ae (pv 4)) af))) af)) rfl)) (aw (bt (PDW.t (jd (wj (ae (pv 3)) (ae (pv 1))) (gz (wj (ae (pv 4)) (ae (pv 2)))))) (ar (gA B.own2 PySem.F.excBase_ValueError rfl rfl (B.cvE 2) sC (aa aP af))) aR) (ar (az (aZ dW (hr.mono (by decide)) rfl aX (aa (ae (pv 0)) (aa (ae (pv 1)) (aa (ae (pv 2)) (aa (ae (pv 3)) (aa (ae (pv 4)) af))))) rfl)))))))
abbrev fk:Stmt:=top 24
def fj:List Str:=["board","part"]
def k_:List Str:=["board","part"]
theorem p_:FnScope fj k_ (ag fk):=⟨rfl,rfl,rfl,by decide+kernel,rfl,by decide+kernel,by decide+kernel⟩
theorem pN(B:Bl K mg base cv cA Cp)(bG:au P w K mg base cv 4 "need_board" 1 aO)(oV:au P w K mg base cv 2 "all_cells" 1 du)(tm:au P w K mg base cv 2 "lies_at" 3 dU)(T:bD K mg "found_in" fk f):au P w K mg base cv 5 "found_in" 2 (cQ):=
 aB (N:=fj) (ps:=k_) T p_ (fun _ _ _ _ _ _ us hl=>match us,hl with | [_,_],_=>rfl) fun a5 A outer s H E hr=>
  (aw (dO (aZ bG (hr.mono (by decide)) rfl aX (aa (ae (pv 0)) af) rfl)) (aw (dO (aZ bG (hr.mono (by decide)) rfl aX (aa (ae (pv 1)) af) rfl)) (ar (az (cg (tn:=["cell"]) (n:=0) (bj (N:=fj) (osc:=(ag fk)) rfl rfl (by decide+kernel)) rfl rfl (pV (aZ oV (hr.mono (by decide)) rfl aX (aa (ae (pv 0)) af) rfl)) (fun _ _ _ _ _ _ _=>b0 (show List.Nodup (((["cell"]:List Str))++bY ["cell"] fj) by decide+kernel) rfl rfl) (fun _ _ _ _ _ _=>(wU (cz (aZ tm (hr.mono (by decide)) rfl d8 (aa (ae (pv 1)) (aa (ae (pv 2)) (aa (ae (pv 0)) af))) rfl)))) (fun _ _ _ _ _ _=>(ae (pv 0))))))))
abbrev fo:Stmt:=top 25
def iw:List Str:=["board","names","sign"]
def iD:List Str:=["board"]
theorem eI:FnScope iw iD (ag fo):=⟨rfl,rfl,rfl,by decide+kernel,rfl,by decide+kernel,by decide+kernel⟩
theorem lX(B:Bl K mg base cv cA Cp)(bG:au P w K mg base cv 4 "need_board" 1 aO)(e8:au P w K mg base cv 1 "with_names" 2 cu)(T:bD K mg "relettered" fo f):au P w K mg base cv 5 "relettered" 1 (aF):=
 aB (N:=iw) (ps:=iD) T eI (fun _ _ _ _ _ _ us hl=>match us,hl with | [_],_=>rfl) fun a5 A outer s H E hr=>
  (aw (dO (aZ bG (hr.mono (by decide)) rfl aX (aa (ae (pv 0)) af) rfl)) (aw (wa eI.nd rfl (by first | exact .inl rfl | exact .inr rfl)) (aw (dP (c4 PassesOwn.never rfl (gy (iF aP (aa (ae (pv 0)) af))) (bZ eI.nd rfl (by first | exact .inl rfl | exact .inr rfl)) cM (cj (ar (bt (rC (uq hr.units (ae (pv 2)) (ae (pv 1)))) (ar (wc hr.units (pv 1) (ae (pv 2)) (BX (ll (sL rfl B.LETTERS (by decide)) (yb rfl B.len (aa (ae (pv 1)) af)))))) aR))))) (ar (kh (i:=1) (az (aZ e8 (hr.mono (by decide)) rfl aX (aa (ae (pv 0)) (aa (ae (pv 1)) af)) rfl)))))))
abbrev jk:Stmt:=top 27
def mL:List Str:=["board","one","other"]
def mT:List Str:=["board","one","other"]
theorem rH:FnScope mL mT (ag jk):=⟨rfl,rfl,rfl,by decide+kernel,rfl,by decide+kernel,by decide+kernel⟩
theorem rm(B:Bl K mg base cv cA Cp)(bG:au P w K mg base cv 4 "need_board" 1 aO)(gE:au P w K mg base cv 2 "need_letter" 1 cb)(e8:au P w K mg base cv 1 "with_names" 2 cu)(T:bD K mg "swapped" jk f):au P w K mg base cv 5 "swapped" 3 (cU):=
 aB (N:=mL) (ps:=mT) T rH (fun _ _ _ _ _ _ us hl=>match us,hl with | [_,_,_],_=>rfl) fun a5 A outer s H E hr=>
  (aw (dO (aZ bG (hr.mono (by decide)) rfl aX (aa (ae (pv 0)) af) rfl)) (aw (dO (aZ gE (hr.mono (by decide)) rfl aX (aa (ae (pv 1)) af) rfl)) (aw (dO (aZ gE (hr.mono (by decide)) rfl aX (aa (ae (pv 2)) af) rfl)) (ar (az (aZ e8 (hr.mono (by decide)) rfl aX (aa (ae (pv 0)) (aa (pU hr.units (ae (pv 1)) (ae (pv 2)) (ae (pv 2)) (ae (pv 1))) af)) rfl))))))
abbrev g5:Stmt:=top 26
def kU:List Str:=["one","other"]
def k9:List Str:=["one","other"]
theorem p9:FnScope kU k9 (ag g5):=⟨rfl,rfl,rfl,by decide+kernel,rfl,by decide+kernel,by decide+kernel⟩
theorem pM(B:Bl K mg base cv cA Cp)(dG:au P w K mg base cv 5 "relettered" 1 aF)(T:bD K mg "are_like" g5 f):au P w K mg base cv 6 "are_like" 2 (cP):=
 aB (N:=kU) (ps:=k9) T p9 (fun _ _ _ _ _ _ us hl=>match us,hl with | [_,_],_=>rfl) fun a5 A outer s H E hr=>
  (ar (az (mV hr.units (aZ dG (hr.mono (by decide)) rfl aX (aa (ae (pv 0)) af) rfl) (aZ dG (hr.mono (by decide)) rfl aX (aa (ae (pv 1)) af) rfl))))
theorem nJ(B:Bl K mg base cv cA Cp){n m:Nat}(hn:n∈[0,2,3])(hm:m∈[0,2,3]):pw K (rZ cA) [.exc (cA n), .raw (.ref (cA m))]=M.ret (.bl (decide (n=m))):=by
 have h:cA n∈rZ cA:=by
  unfold rZ
  simp only[List.mem_cons,List.not_mem_nil,or_false] at hn
  rcases hn with rfl | rfl | rfl<;>simp
 show (if cA n∈rZ cA then(match PySem.W.kitOne K (.ref (cA n)) (.ref (cA m)) with | some b=>M.ret (D.bl b) | none=>M.stuck) else M.stuck)=_
 rw[if_pos h,B.kit n m hn hm]
theorem vo(B:Bl K mg base cv cA Cp){n:Nat}(hn:n∈[0,2,3]):pw K (rZ cA) [.exc (cA n), .raw (.ty "ValueError")]=M.ret (.bl true):=by
 have h:cA n∈rZ cA:=by
  unfold rZ
  simp only[List.mem_cons,List.not_mem_nil,or_false] at hn
  rcases hn with rfl | rfl | rfl<;>simp
 show (if cA n∈rZ cA then(match PySem.W.kitOne K (.ref (cA n)) (.type "ValueError") with | some b=>M.ret (D.bl b) | none=>M.stuck) else M.stuck)=_
 rw[if_pos h,B.kitV n hn]
theorem sS(k:Nat):AZ k∈[0,2,3]:=by
 unfold AZ
 split<;>simp
theorem p3(B:Bl K mg base cv cA Cp)(k:Nat):aQ K cA [.exc (cB cA k)]=zB k:=by
 unfold zB cB
 have hn:=sS k
 generalize AZ k=n at hn
 have hv:=vo B hn
 have x0:=nJ B (m:=0) hn (by decide)
 have x2:=nJ B (m:=2) hn (by decide)
 have x3:=nJ B (m:=3) hn (by decide)
 clear B
 simp only[List.mem_cons,List.not_mem_nil,or_false] at hn
 rcases hn with rfl | rfl | rfl
 ·simp only[aQ,cG,hv,x0,x2,x3,bE,aI,b9,dA,aC,aN,dV,dC,d1,d2,dM,ju,b7,bR,eZ,a_,cn,da,ao,List.map_cons,List.map_nil,List.cons_append,List.nil_append,List.replicate,List.length_cons,List.length_nil,List.set_cons_zero,List.set_cons_succ,List.getElem?_cons_zero,List.getElem?_cons_succ,dw,Nat.reduceSub,Nat.reduceAdd,lim,Nat.reduceLeDiff,if_true,kG,jy,tB,bools,decide_true,decide_false,Nat.reduceEqDiff];rfl
 ·simp only[aQ,cG,hv,x0,x2,x3,bE,aI,b9,dA,aC,aN,dV,dC,d1,d2,dM,ju,b7,bR,eZ,a_,cn,da,ao,List.map_cons,List.map_nil,List.cons_append,List.nil_append,List.replicate,List.length_cons,List.length_nil,List.set_cons_zero,List.set_cons_succ,List.getElem?_cons_zero,List.getElem?_cons_succ,dw,Nat.reduceSub,Nat.reduceAdd,lim,Nat.reduceLeDiff,if_true,kG,jy,tB,bools,decide_true,decide_false,Nat.reduceEqDiff];rfl
 ·simp only[aQ,cG,hv,x0,x2,x3,bE,aI,b9,dA,aC,aN,dV,dC,d1,d2,dM,ju,b7,bR,eZ,a_,cn,da,ao,List.map_cons,List.map_nil,List.cons_append,List.nil_append,List.replicate,List.length_cons,List.length_nil,List.set_cons_zero,List.set_cons_succ,List.getElem?_cons_zero,List.getElem?_cons_succ,dw,Nat.reduceSub,Nat.reduceAdd,lim,Nat.reduceLeDiff,if_true,kG,jy,tB,bools,decide_true,decide_false,Nat.reduceEqDiff];rfl
theorem hh(B:Bl K mg base cv cA Cp){i:Nat}(k:Nat)(ρ:aY)(e:ρ[i]? =some (some (.fz (.exc (cB cA k))))):a_ (uP 1 (aQ K cA) (aC (dV i) aN)) ρ=(zB k>>=fun d=>M.ret (.rt d)):=by
 have h4:dV i ρ=M.ret (.exc (cB cA k)):=by unfold dV;rw[e]
 show ((dV i ρ>>=fun x=>aN ρ>>=fun xs=>M.ret (x::xs))>>=fun ds=>if ds.length=1 then noex (noex (aQ K cA ds)) else M.stuck)>>=_=_
 rw[h4]
 show (if [D.exc (cB cA k)].length=1 then noex (noex (aQ K cA [.exc (cB cA k)])) else M.stuck)>>=_=_
 rw[p3 B k]
 rfl
abbrev ef:Stmt:=top 35
def fS:List Str:=["_law_kind","_law_board_here","_law_one","_law_other","_law_e"]
def fY:List Str:=["_law_kind","_law_board_here","_law_one","_law_other"]
theorem fy:FnScope fS fY (ag ef):=⟨rfl,rfl,rfl,by decide+kernel,rfl,by decide+kernel,by decide+kernel⟩
theorem j4(B:Bl K mg base cv cA Cp)(tf:au P w K mg base cv 5 "cut_out" 5 cq)(qz:au P w K mg base cv 6 "are_like" 2 cP)(tq:au P w K mg base cv 5 "swapped" 3 cU)(iV:j9 P w K mg base cv 1 "_law_refused" 1 (aQ K cA))(qA:au P w K mg base cv 5 "found_in" 2 cQ)(dG:au P w K mg base cv 5 "relettered" 1 aF)(T:bD K mg "_law_told" ef f):au P w K mg base cv 7 "_law_told" 4 (ai):=
 aB (N:=fS) (ps:=fY) T fy (fun _ _ _ _ _ _ us hl=>match us,hl with | [_,_,_,_],_=>rfl) fun a5 A outer s H E hr=>
  (ar (yn (i:=4) (hd:=zB) B.cvE fy.nd rfl rfl rfl B.top B.exm (fun pn Ec Xw' hp=>(aw (bt (pZ hr.units (ae (pv 0)) aj) (ar (az (aZ tf (hr.mono (by decide)) rfl hp (aa (ae (pv 1)) (aa (bo (ae (pv 2)) aj) (aa (bo (ae (pv 2)) aj) (aa (bo (ae (pv 3)) aj) (aa (bo (ae (pv 3)) aj) af))))) rfl))) aR) (aw (bt (wj (ae (pv 0)) aj) (ar (az (sH (pZ hr.units (ae (pv 0)) aj) (aZ qA (hr.mono (by decide)) rfl hp (aa (ae (pv 1)) (aa (ae (pv 2)) af)) rfl) (aZ dG (hr.mono (by decide)) rfl hp (aa (ae (pv 1)) af) rfl)))) aR) (ar (az (sH (pZ hr.units (ae (pv 0)) aj) (aZ qz (hr.mono (by decide)) rfl hp (aa (ae (pv 1)) (aa (ae (pv 2)) af)) rfl) (aZ tq (hr.mono (by decide)) rfl hp (aa (ae (pv 1)) (aa (ae (pv 2)) (aa (ae (pv 3)) af))) rfl))))))) (fun ea=>(ar (az (xi iV (RoomH.of (hr.mono (by decide)) _) rfl (aa (ae (pv 4)) af))))) (fun k ρ _ e=>hh B k ρ e)))
abbrev cE:Stmt:=top 37
def cx:List Str:=["_law_board_here","_law_bad"]
def eR:List Str:=["_law_board_here"]
theorem c9:FnScope cx eR (ag cE):=⟨rfl,rfl,rfl,by decide+kernel,rfl,by decide+kernel,by decide+kernel⟩
set_option maxHeartbeats 4000000 in
theorem iA(B:Bl K mg base cv cA Cp)(ay:au P w K mg base cv 7 "_law_told" 4 ai)(T:bD K mg "_law_refuses" cE f):au P w K mg base cv 8 "_law_refuses" 1 (bT):=
 aB (N:=cx) (ps:=eR) T c9 (fun _ _ _ _ _ _ us hl=>match us,hl with | [_],_=>rfl) fun a5 A outer s H E hr=>
  (aw (dP (c4 PassesOwn.never rfl (cZ (aV (aa (aV (aa aj (aa aj af))) (aa (aV (aa aj (aa (vT aj) af))) (aa (aV (aa di (aa aj af))) (aa (aV (aa aj (aa cY af))) (aa (aV (aa aP (aa aj af))) af))))))) (bZ c9.nd rfl (by first | exact .inl rfl | exact .inr rfl)) cM (cj (aw (bt (eW hr.units (aZ ay (hr.mono (by decide)) rfl d8 (aa aj (aa (ae (pv 0)) (aa (ae (pv 1)) (aa (aV (aa aj (aa aj af))) af)))) rfl) (aV (aa aP (aa aj af)))) (ar (az cY)) aR) (ar (bt (eW hr.units (aZ ay (hr.mono (by decide)) rfl d8 (aa aj (aa (ae (pv 0)) (aa (aV (aa aj (aa aj af))) (aa (ae (pv 1)) af)))) rfl) (aV (aa aP (aa aj af)))) (ar (az cY)) aR)))))) (aw (ym (dP (c4 PassesOwn.never rfl (cZ (aV (aa aP (aa aP (aa aP (aa di (aa aj (aa (g0 (aa aP af)) af)))))))) (bZ c9.nd rfl (by first | exact .inl rfl | exact .inr rfl)) cM (cj (aw (bt (eW hr.units (aZ ay (hr.mono (by decide)) rfl d8 (aa aj (aa (ae (pv 0)) (aa (ae (pv 1)) (aa di af)))) rfl) (aV (aa aP (aa aj af)))) (ar (az cY)) aR) (aw (bt (eW hr.units (aZ ay (hr.mono (by decide)) rfl d8 (aa aj (aa (ae (pv 0)) (aa aP (aa (ae (pv 1)) af)))) rfl) (aV (aa aP (aa aj af)))) (ar (az cY)) aR) (aw (bt (eW hr.units (aZ ay (hr.mono (by decide)) rfl d8 (aa aj (aa (ae (pv 0)) (aa (ae (pv 1)) (aa di af)))) rfl) (aV (aa aP (aa aj af)))) (ar (az cY)) aR) (ar (bt (eW hr.units (aZ ay (hr.mono (by decide)) rfl d8 (aa aj (aa (ae (pv 0)) (aa (ae (pv 1)) (aa di af)))) rfl) (aV (aa aP (aa aj af)))) (ar (az cY)) aR))))))))) (ar (az (mV hr.units (cg (tn:=["_law_kind"]) (n:=0) (bj (N:=cx) (osc:=(ag cE)) rfl rfl (by decide+kernel)) rfl rfl (cS rfl B.range (aa aj af)) (fun _ _ _ _ _ _ _=>b0 (show List.Nodup (((["_law_kind"]:List Str))++bY ["_law_kind"] cx) by decide+kernel) rfl rfl) (fun _ _ _ _ _ _=>bK) (fun _ _ _ _ _ _=>(aZ ay (hr.mono (by decide)) rfl d8 (aa (ae (pv 0)) (aa (aV (aa aP (aa aP af))) (aa (aV (aa di (aa di af))) (aa (aV (aa di (aa di af))) af)))) rfl))) (Ae (g0 (aa (aV (aa aP (aa aj af))) af)) aj))))))
abbrev ak:Stmt:=top 38
def aE:List Str:=["_law_script","_law_board_here","_law_one","_law_other","_law_good","_law_part","_law_some","_law_due","_law_row","_law_column","_law_second","_law_pair","_law_turn"]
def ja:List Str:=["_law_script"]
theorem bf:FnScope aE ja (ag ak):=⟨rfl,rfl,rfl,by decide+kernel,rfl,by decide+kernel,by decide+kernel⟩
set_option maxHeartbeats 4000000 in
theorem ou(B:Bl K mg base cv cA Cp)(bF:au P w K mg base cv 3 "_law_board" 3 bq){a5:Value}{A:Around}{outer:List Env}{s:Shared}{H:Hp}{E:XK}(hr:Room 8 (A.deeper (envOfC "law" (ag ak) s.heap.objs.size f a5))):
 Box (fx (aL (b6 P w cv) P w K mg base aE "law" (ag ak) f a5 A outer s H E) (fun n H'=>E (cv n) none H') ((aK ak).getD 0 (.Pass ⟨0,0,0,0⟩)) jP):=
 ⟨(bb bf.nd rfl (by first | exact .inl rfl | exact .inr rfl) (aZ bF (hr.mono (by decide)) rfl aX (aa (ae (pv 0)) (aa aj (aa aj af))) rfl))⟩
set_option maxHeartbeats 4000000 in
theorem oy(B:Bl K mg base cv cA Cp)(b_:au P w K mg base cv 3 "_law_cell_in" 3 bM){a5:Value}{A:Around}{outer:List Env}{s:Shared}{H:Hp}{E:XK}(hr:Room 8 (A.deeper (envOfC "law" (ag ak) s.heap.objs.size f a5))):
 Box (fx (aL (b6 P w cv) P w K mg base aE "law" (ag ak) f a5 A outer s H E) (fun n H'=>E (cv n) none H') ((aK ak).getD 1 (.Pass ⟨0,0,0,0⟩)) jQ):=
 ⟨(bb bf.nd rfl (by first | exact .inl rfl | exact .inr rfl) (aZ b_ (hr.mono (by decide)) rfl aX (aa (ae (pv 0)) (aa aj (aa (ae (pv 1)) af))) rfl))⟩
set_option maxHeartbeats 4000000 in
theorem oz(B:Bl K mg base cv cA Cp)(b_:au P w K mg base cv 3 "_law_cell_in" 3 bM){a5:Value}{A:Around}{outer:List Env}{s:Shared}{H:Hp}{E:XK}(hr:Room 8 (A.deeper (envOfC "law" (ag ak) s.heap.objs.size f a5))):
 Box (fx (aL (b6 P w cv) P w K mg base aE "law" (ag ak) f a5 A outer s H E) (fun n H'=>E (cv n) none H') ((aK ak).getD 2 (.Pass ⟨0,0,0,0⟩)) jR):=
 ⟨(bb bf.nd rfl (by first | exact .inl rfl | exact .inr rfl) (aZ b_ (hr.mono (by decide)) rfl aX (aa (ae (pv 0)) (aa aj (aa (ae (pv 1)) af))) rfl))⟩
set_option maxHeartbeats 4000000 in
theorem oA(B:Bl K mg base cv cA Cp){a5:Value}{A:Around}{outer:List Env}{s:Shared}{H:Hp}{E:XK}(hr:Room 8 (A.deeper (envOfC "law" (ag ak) s.heap.objs.size f a5))):
 Box (fx (aL (b6 P w cv) P w K mg base aE "law" (ag ak) f a5 A outer s H E) (fun n H'=>E (cv n) none H') ((aK ak).getD 3 (.Pass ⟨0,0,0,0⟩)) jS):=
 ⟨(bb bf.nd rfl (by first | exact .inl rfl | exact .inr rfl) (lj (y0 (bo (ae (pv 2)) aj) (bo (ae (pv 3)) aj)) (n8 (y0 (bo (ae (pv 2)) aj) (bo (ae (pv 3)) aj)))))⟩
set_option maxHeartbeats 4000000 in
theorem oB(B:Bl K mg base cv cA Cp){a5:Value}{A:Around}{outer:List Env}{s:Shared}{H:Hp}{E:XK}(hr:Room 8 (A.deeper (envOfC "law" (ag ak) s.heap.objs.size f a5))):
 Box (fx (aL (b6 P w cv) P w K mg base aE "law" (ag ak) f a5 A outer s H E) (fun n H'=>E (cv n) none H') ((aK ak).getD 4 (.Pass ⟨0,0,0,0⟩)) jT):=
 ⟨(bb bf.nd rfl (by first | exact .inl rfl | exact .inr rfl) (eV rfl B.tuple rfl (aa (cg (tn:=["_law_row"]) (n:=0) (bj (N:=aE) (osc:=(ag ak)) rfl rfl (by decide+kernel)) rfl rfl (cZ (mW (ae (pv 1)) (b8 (bo (ae (pv 2)) aj)) (b8 (bN (bo (ae (pv 3)) aj) aj)))) (fun _ _ _ _ _ _ _=>b0 (show List.Nodup (((["_law_row"]:List Str))++bY ["_law_row"] aE) by decide+kernel) rfl rfl) (fun _ _ _ _ _ _=>bK) (fun _ _ _ _ _ _=>(mW (ae (pv 0)) (b8 (bo (ae (pv 3)) aj)) (b8 (bN (bo (ae (pv 4)) aj) aj))))) af)))⟩
set_option maxHeartbeats 4000000 in
theorem oC(B:Bl K mg base cv cA Cp)(ay:au P w K mg base cv 7 "_law_told" 4 ai){a5:Value}{A:Around}{outer:List Env}{s:Shared}{H:Hp}{E:XK}(hr:Room 8 (A.deeper (envOfC "law" (ag ak) s.heap.objs.size f a5))):
 Box (fx (aL (b6 P w cv) P w K mg base aE "law" (ag ak) f a5 A outer s H E) (fun n H'=>E (cv n) none H') ((aK ak).getD 5 (.Pass ⟨0,0,0,0⟩)) jU):=
 ⟨(bt (eW hr.units (aZ ay (hr.mono (by decide)) rfl aX (aa aj (aa (ae (pv 1)) (aa (ae (pv 2)) (aa (ae (pv 3)) af)))) rfl) (sH (cz (ae (pv 4))) (ae (pv 5)) (aV (aa aP (aa aj af))))) (ar (az cY)) aR)⟩
set_option maxHeartbeats 4000000 in
theorem oD(B:Bl K mg base cv cA Cp)(bF:au P w K mg base cv 3 "_law_board" 3 bq)(ay:au P w K mg base cv 7 "_law_told" 4 ai)(fH:au P w K mg base cv 1 "_law_cells" 1 bW){a5:Value}{A:Around}{outer:List Env}{s:Shared}{H:Hp}{E:XK}(hr:Room 8 (A.deeper (envOfC "law" (ag ak) s.heap.objs.size f a5))):
 Box (fx (aL (b6 P w cv) P w K mg base aE "law" (ag ak) f a5 A outer s H E) (fun n H'=>E (cv n) none H') ((aK ak).getD 6 (.Pass ⟨0,0,0,0⟩)) jV):=
 ⟨(dP (c4 PassesOwn.never rfl (cZ (aV (aa (sH (cz (ae (pv 4))) (ae (pv 5)) (ae (pv 1))) (aa (aZ bF (hr.mono (by decide)) rfl d8 (aa (ae (pv 0)) (aa aj (aa aj af))) rfl) af)))) (bZ bf.nd rfl (by first | exact .inl rfl | exact .inr rfl)) cM (cj (aw (ki bf.nd rfl (by first | exact .inl rfl | exact .inr rfl)) (aw (c4 PassesOwn.never rfl (pV (aZ fH (hr.mono (by decide)) rfl d8 (aa (ae (pv 1)) af) rfl)) (Ao rfl (pW (bZ bf.nd rfl (by first | exact .inl rfl | exact .inr rfl)) (pW (bZ bf.nd rfl (by first | exact .inl rfl | exact .inr rfl)) yh))) (yr (is:=[8,9])) (cj (ar (bt (pZ hr.units (eV rfl B.tuple rfl (aa (cg (tn:=["_law_line"]) (n:=0) (bj (N:=aE) (osc:=(ag ak)) rfl rfl (by decide+kernel)) rfl rfl (cZ (mW (ae (pv 1)) (b8 (ae (pv 8))) (b8 (bN (ae (pv 8)) (bO rfl B.len (aa (ae (pv 6)) af)))))) (fun _ _ _ _ _ _ _=>b0 (show List.Nodup (((["_law_line"]:List Str))++bY ["_law_line"] aE) by decide+kernel) rfl rfl) (fun _ _ _ _ _ _=>bK) (fun _ _ _ _ _ _=>(mW (ae (pv 0)) (b8 (ae (pv 10))) (b8 (bN (ae (pv 10)) (bO rfl B.len (aa (bo (ae (pv 7)) aj) af))))))) af)) (ae (pv 6))) (ar (n_ (pv 7) (aV (aa (ae (pv 8)) (aa (ae (pv 9)) af))))) aR)))) (ar (bt (rC (eW hr.units (aZ ay (hr.mono (by decide)) rfl d8 (aa aj (aa (ae (pv 1)) (aa (ae (pv 6)) (aa di af)))) rfl) (ae (pv 7)))) (ar (az cY)) aR)))))))⟩
set_option maxHeartbeats 4000000 in
theorem oE(B:Bl K mg base cv cA Cp)(bF:au P w K mg base cv 3 "_law_board" 3 bq){a5:Value}{A:Around}{outer:List Env}{s:Shared}{H:Hp}{E:XK}(hr:Room 8 (A.deeper (envOfC "law" (ag ak) s.heap.objs.size f a5))):
 Box (fx (aL (b6 P w cv) P w K mg base aE "law" (ag ak) f a5 A outer s H E) (fun n H'=>E (cv n) none H') ((aK ak).getD 7 (.Pass ⟨0,0,0,0⟩)) jW):=
 ⟨(bb bf.nd rfl (by first | exact .inl rfl | exact .inr rfl) (aZ bF (hr.mono (by decide)) rfl aX (aa (ae (pv 0)) (aa aj (aa aj af))) rfl))⟩
set_option maxHeartbeats 4000000 in
theorem oF(B:Bl K mg base cv cA Cp)(ay:au P w K mg base cv 7 "_law_told" 4 ai)(bh:au P w K mg base cv 1 "_law_relettered" 1 aW){a5:Value}{A:Around}{outer:List Env}{s:Shared}{H:Hp}{E:XK}(hr:Room 8 (A.deeper (envOfC "law" (ag ak) s.heap.objs.size f a5))):
 Box (fx (aL (b6 P w cv) P w K mg base aE "law" (ag ak) f a5 A outer s H E) (fun n H'=>E (cv n) none H') ((aK ak).getD 8 (.Pass ⟨0,0,0,0⟩)) jX):=
 ⟨(bt (eW hr.units (aZ ay (hr.mono (by decide)) rfl aX (aa aj (aa (ae (pv 1)) (aa di (aa di af)))) rfl) (aZ bh (hr.mono (by decide)) rfl aX (aa (ae (pv 1)) af) rfl)) (ar (az cY)) aR)⟩
set_option maxHeartbeats 4000000 in
theorem oG(B:Bl K mg base cv cA Cp)(ay:au P w K mg base cv 7 "_law_told" 4 ai)(bh:au P w K mg base cv 1 "_law_relettered" 1 aW){a5:Value}{A:Around}{outer:List Env}{s:Shared}{H:Hp}{E:XK}(hr:Room 8 (A.deeper (envOfC "law" (ag ak) s.heap.objs.size f a5))):
 Box (fx (aL (b6 P w cv) P w K mg base aE "law" (ag ak) f a5 A outer s H E) (fun n H'=>E (cv n) none H') ((aK ak).getD 9 (.Pass ⟨0,0,0,0⟩)) jY):=
 ⟨(bt (eW hr.units (aZ ay (hr.mono (by decide)) rfl aX (aa aj (aa (ae (pv 1)) (aa (ae (pv 10)) (aa di af)))) rfl) (mV hr.units (aZ bh (hr.mono (by decide)) rfl aX (aa (ae (pv 1)) af) rfl) (aZ bh (hr.mono (by decide)) rfl aX (aa (ae (pv 10)) af) rfl))) (ar (az cY)) aR)⟩
set_option maxHeartbeats 4000000 in
theorem l7(B:Bl K mg base cv cA Cp)(bg:au P w K mg base cv 2 "_law_drawn" 3 aD){a5:Value}{A:Around}{outer:List Env}{s:Shared}{H:Hp}{E:XK}(hr:Room 8 (A.deeper (envOfC "law" (ag ak) s.heap.objs.size f a5))):
 Box (fx (aL (b6 P w cv) P w K mg base aE "law" (ag ak) f a5 A outer s H E) (fun n H'=>E (cv n) none H') ((aK ak).getD 10 (.Pass ⟨0,0,0,0⟩)) iO):=
 ⟨(bb bf.nd rfl (by first | exact .inl rfl | exact .inr rfl) (g0 (aa (ll aP (aZ bg (hr.mono (by decide)) rfl aX (aa (ae (pv 0)) (aa aj (aa aj af))) rfl)) (aa (ll aP (aZ bg (hr.mono (by decide)) rfl aX (aa (ae (pv 0)) (aa aj (aa aj af))) rfl)) af))))⟩
set_option maxHeartbeats 4000000 in
theorem l8(B:Bl K mg base cv cA Cp){a5:Value}{A:Around}{outer:List Env}{s:Shared}{H:Hp}{E:XK}(hr:Room 8 (A.deeper (envOfC "law" (ag ak) s.heap.objs.size f a5))):
 Box (fx (aL (b6 P w cv) P w K mg base aE "law" (ag ak) f a5 A outer s H E) (fun n H'=>E (cv n) none H') ((aK ak).getD 11 (.Pass ⟨0,0,0,0⟩)) iP):=
 ⟨(bb bf.nd rfl (by first | exact .inl rfl | exact .inr rfl) (pU hr.units (gZ (ae (pv 11)) aj) (gZ (ae (pv 11)) aj) (gZ (ae (pv 11)) aj) (gZ (ae (pv 11)) aj)))⟩
set_option maxHeartbeats 4000000 in
theorem l9(B:Bl K mg base cv cA Cp){a5:Value}{A:Around}{outer:List Env}{s:Shared}{H:Hp}{E:XK}(hr:Room 8 (A.deeper (envOfC "law" (ag ak) s.heap.objs.size f a5))):
 Box (fx (aL (b6 P w cv) P w K mg base aE "law" (ag ak) f a5 A outer s H E) (fun n H'=>E (cv n) none H') ((aK ak).getD 12 (.Pass ⟨0,0,0,0⟩)) iQ):=
 ⟨(bb bf.nd rfl (by first | exact .inl rfl | exact .inr rfl) (eV rfl B.tuple rfl (aa (cg (tn:=["_law_row"]) (n:=0) (bj (N:=aE) (osc:=(ag ak)) rfl rfl (by decide+kernel)) rfl rfl (cZ (ae (pv 1))) (fun _ _ _ _ _ _ _=>b0 (show List.Nodup (((["_law_row"]:List Str))++bY ["_law_row"] aE) by decide+kernel) rfl rfl) (fun _ _ _ _ _ _=>bK) (fun _ _ _ _ _ _=>(iF aP (aa (cg (tn:=["_law_sign"]) (n:=0) (bj (N:=(((["_law_row"]:List Str))++bY ["_law_row"] aE)) (osc:=(Ep _ (ag ak))) rfl rfl (by decide+kernel)) rfl rfl (gy (ae (pv 0))) (fun _ _ _ _ _ _ _=>b0 (show List.Nodup (((["_law_sign"]:List Str))++bY ["_law_sign"] (((["_law_row"]:List Str))++bY ["_law_row"] aE)) by decide+kernel) rfl rfl) (fun _ _ _ _ _ _=>bK) (fun _ _ _ _ _ _=>(sG hr.units (ae (pv 14)) (ae (pv 0)) (ae (pv 0)) ⟨rfl,rfl,rfl,rfl⟩))) af)))) af)))⟩
set_option maxHeartbeats 4000000 in
theorem l_(B:Bl K mg base cv cA Cp)(ay:au P w K mg base cv 7 "_law_told" 4 ai){a5:Value}{A:Around}{outer:List Env}{s:Shared}{H:Hp}{E:XK}(hr:Room 8 (A.deeper (envOfC "law" (ag ak) s.heap.objs.size f a5))):
 Box (fx (aL (b6 P w cv) P w K mg base aE "law" (ag ak) f a5 A outer s H E) (fun n H'=>E (cv n) none H') ((aK ak).getD 13 (.Pass ⟨0,0,0,0⟩)) iR):=
 ⟨(bt (rC (eW hr.units (aZ ay (hr.mono (by decide)) rfl aX (aa aj (aa (ae (pv 1)) (aa (gZ (ae (pv 11)) aj) (aa (gZ (ae (pv 11)) aj) af)))) rfl) (ae (pv 7)))) (ar (az cY)) aR)⟩
set_option maxHeartbeats 4000000 in
theorem ma(B:Bl K mg base cv cA Cp)(df:au P w K mg base cv 8 "_law_refuses" 1 bT){a5:Value}{A:Around}{outer:List Env}{s:Shared}{H:Hp}{E:XK}(hr:Room 8 (A.deeper (envOfC "law" (ag ak) s.heap.objs.size f a5))):
 Box (fx (aL (b6 P w cv) P w K mg base aE "law" (ag ak) f a5 A outer s H E) (fun n H'=>E (cv n) none H') ((aK ak).getD 14 (.Pass ⟨0,0,0,0⟩)) iS):=
 ⟨(az (aZ df (hr.mono (by decide)) rfl aX (aa (ae (pv 1)) af) rfl))⟩
set_option maxHeartbeats 4000000 in
theorem pL{fd:FuncData}(B:Bl K mg base cv cA Cp)(bF:au P w K mg base cv 3 "_law_board" 3 bq)(b_:au P w K mg base cv 3 "_law_cell_in" 3 bM)(df:au P w K mg base cv 8 "_law_refuses" 1 bT)(ay:au P w K mg base cv 7 "_law_told" 4 ai)(fH:au P w K mg base cv 1 "_law_cells" 1 bW)(bh:au P w K mg base cv 1 "_law_relettered" 1 aW)(bg:au P w K mg base cv 2 "_law_drawn" 3 aD)(Fn:Fun K "law" "law" ak f fd):FnOk P w K mg base (b6 P w cv) 9 f fd ja (xa K cv 1 gq):=
 Bn (N:=aE) (ps:=ja) (τ:=jm) Fn bf fun a5 A outer s H E hr=>by
  obtain⟨Hk⟩:Box (PSDs (aL (b6 P w cv) P w K mg base aE "law" (ag ak) f a5 A outer s H E) (fun n H'=>E (cv n) none H') (aK ak) jm):=(cV (ou B bF hr) (cV (oy B b_ hr) (cV (oz B b_ hr) (cV (oA B hr) (cV (oB B hr) (cV (oC B ay hr) (cV (oD B bF ay fH hr) (cV (oE B bF hr) (cV (oF B ay bh hr) (cV (oG B ay bh hr) (cV (l7 B bg hr) (cV (l8 B hr) (cV (l9 B hr) (cV (l_ B ay hr) (zd (ma B df hr))))))))))))))))
  assumption
end
end K1
namespace K1
open PySem L2 L3
theorem vz{ds:List D}(h:ds.length≤lim):dw ds=M.ret (.lst ds):=if_pos h
theorem dI:lim=4096:=rfl
theorem kn{α:Type}{xs:List α}{i:Nat}{x:α}(h:xs[i]? =some x):L2.atI xs (i:Int)=some x:=by
 obtain⟨hi,e⟩:=List.getElem?_eq_some_iff.mp h
 unfold L2.atI zO
 rw[if_pos (Int.natCast_nonneg i),if_pos (by exact Int.ofNat_lt.mpr hi)]
 exact h
theorem ah{m:Nat}{g:List D→M D}{δs:DA}{ρ:aY}{ds:List D}(h:δs ρ=M.ret ds)(hl:ds.length=m):av m g δs ρ=g ds:=by
 unfold av
 rw[h]
 exact if_pos hl
theorem bA{a:DE}{r:DA}{ρ:aY}{x:D}{xs:List D}(h1:a ρ=M.ret x)(h2:r ρ=M.ret xs):aC a r ρ=M.ret (x::xs):=by
 unfold aC
 rw[h1,ao,h2]
 rfl
theorem aS{g:D→D→M D}{a b:DE}{ρ:aY}{x y:D}(h1:a ρ=M.ret x)(h2:b ρ=M.ret y):d2 g a b ρ=g x y:=by
 unfold d2
 rw[h1,ao,h2]
 rfl
theorem dz{g:List D→M D}{a:DA}{ρ:aY}{xs:List D}(h:a ρ=M.ret xs):dA g a ρ=g xs:=by
 unfold dA
 rw[h]
 rfl
theorem eN{i j:Int}(h:0<j):ie (.int i) (.int j)=M.ret (.int (i % j)):=by
 show (if decide (0<j)=true then _ else _)=_
 rw[if_pos (decide_eq_true h)]
theorem ib{i j:Int}(h:0<j)(h2:j<1073741824):lS (.int i) (.int j)=M.ret (.int (i / j)):=by
 show (if decide (0<j∧j<1073741824)=true then _ else _)=_
 rw[if_pos (decide_eq_true ⟨h,h2⟩)]
theorem eO{i j:Int}(h:(-(2 ^ 64)<i∧i<2 ^ 64)∨(-(2 ^ 64)<j∧j<2 ^ 64)):fN (.int i) (.int j)=M.ret (.int (i*j)):=by
 show (if decide _=true then _ else _)=_
 rw[if_pos (decide_eq_true h)]
theorem fM{i j:Int}:cw (.int i) (.int j)=M.ret (.int (i+j)):=rfl
theorem uS(ns:List Int)(hl:ns.length≤63)(k:Nat):∃v,dY [.scr ns, .int (k:Int)]=M.ret (.int v):=by
 cases ns with
 |nil=>
  refine⟨7*(k:Int),?_⟩
  rfl
 |cons n r=>
  have hp:0<(n::r).length:=Nat.succ_pos _
  generalize e:(n::r)=ns at*
  have he:jv 6 (.scr ns) (.lst [])=some false:=by subst e;rfl
  obtain⟨y,hy⟩:∃y,ns[k % ns.length]? =some y:=⟨_,List.getElem?_eq_getElem (Nat.mod_lt _ hp)⟩
  have Fb:(0:Int)<(ns.length:Int):=by omega
  have h1:ie (.int (k:Int)) (.int (ns.length:Int))=M.ret (.int ((k % ns.length:Nat):Int)):=eN Fb
  have h2:lS (.int (k:Int)) (.int (ns.length:Int))=M.ret (.int ((k:Int) / (ns.length:Int))):=ib Fb (by omega)
  have h3:va (.scr ns) (.int ((k % ns.length:Nat):Int))=M.ret (.int y):=by
   show (match L2.atI ns ((k % ns.length:Nat):Int) with | some n=>M.ret (D.int n) | none=>M.stuck)=_
   rw[kn hy]
  have h4:fN (.int 6553) (.int ((k:Int) / (ns.length:Int)))=M.ret (.int (6553*((k:Int) / (ns.length:Int)))):=eO (.inl ⟨by decide,by decide⟩)
  refine⟨y+6553*((k:Int) / (ns.length:Int)),?_⟩
  simp only[dY,lN,bE,aI,eZ,a_,cn,da,d2,dV,dC,dA,aC,aN,dw,br,uF,jw,he,ao,h1,h2,h3,h4,List.map_cons,List.map_nil,List.cons_append,List.nil_append,List.length_cons,List.length_nil,List.getElem?_cons_zero,List.getElem?_cons_succ,dI,Nat.reduceAdd,Nat.zero_le,if_true,Bool.false_eq_true,if_false,cw,gI]
theorem cT(ns:List Int)(hl:ns.length≤63)(k m:Nat)(hm:0<m):∃v:Nat,v<m∧aD [.scr ns, .int (k:Int), .int (m:Int)]=M.ret (.int (v:Int)):=by
 obtain⟨c,hc⟩:=uS ns hl k
 have b1:=Int.emod_nonneg (c % 2147483563*69069+104723*((k:Int)+1)) (b:=2147483563) (by decide)
 have b2:=Int.emod_lt_of_pos (c % 2147483563*69069+104723*((k:Int)+1)) (b:=2147483563) (by decide)
 generalize hx:(c % 2147483563*69069+104723*((k:Int)+1)) % 2147483563=x at b1 b2
 have b3:=Int.emod_nonneg (x*x+x / 3) (b:=2147483399) (by decide)
 have b4:=Int.emod_lt_of_pos (x*x+x / 3) (b:=2147483399) (by decide)
 generalize hy:(x*x+x / 3) % 2147483399=y at b3 b4
 have m1:fN (.int (c % 2147483563)) (.int 69069)=_:=eO (.inr ⟨by decide,by decide⟩)
 have m2:fN (.int 104723) (.int ((k:Int)+1))=_:=eO (.inl ⟨by decide,by decide⟩)
 have m3:fN (.int x) (.int x)=_:=eO (.inl ⟨by omega,by omega⟩)
 have m4:fN (.int y) (.int y)=_:=eO (.inl ⟨by omega,by omega⟩)
 have hM:(0:Int)<(m:Int):=Int.ofNat_lt.mpr hm
 have n1:=Int.emod_nonneg ((y*y+y / 7) % 2147483647 / 11) (b:=(m:Int)) (by omega)
 have n2:=Int.emod_lt_of_pos ((y*y+y / 7) % 2147483647 / 11) hM
 have q1:ie (.int c) (.int 2147483563)=_:=eN (by decide)
 have q2:ie (.int (c % 2147483563*69069+104723*((k:Int)+1))) (.int 2147483563)=_:=eN (by decide)
 have q3:lS (.int x) (.int 3)=_:=ib (by decide) (by decide)
 have q4:ie (.int (x*x+x / 3)) (.int 2147483399)=_:=eN (by decide)
 have q5:lS (.int y) (.int 7)=_:=ib (by decide) (by decide)
 have q6:ie (.int (y*y+y / 7)) (.int 2147483647)=_:=eN (by decide)
 have q7:lS (.int ((y*y+y / 7) % 2147483647)) (.int 11)=_:=ib (by decide) (by decide)
 have q8:ie (.int ((y*y+y / 7) % 2147483647 / 11)) (.int (m:Int))=_:=eN hM
 refine⟨((y*y+y / 7) % 2147483647 / 11 % (m:Int)).toNat,by omega,?_⟩
 rw[Int.toNat_of_nonneg n1]
 rw[hx] at q2
 rw[hy] at q4
 simp only[aD,jO,bE,aI,b9,a_,av,d2,dV,dC,dA,aC,aN,ao,hc,List.map_cons,List.map_nil,List.cons_append,List.nil_append,List.length_cons,List.length_nil,List.getElem?_cons_zero,List.getElem?_cons_succ,List.replicate,List.set_cons_zero,List.set_cons_succ,Nat.reduceAdd,Nat.reduceSub,if_true,fM,m1,m2,m3,m4,q1,q2,q3,q4,q5,q6,q7,q8]
theorem vE{α:Type}(a:α):noex (M.ret a)=M.ret a:=rfl
theorem o_{put:D→aY→Option aY}{body:DS}{I:Nat→aY→Prop}:∀(ds:List D) (i:Nat) (ρ:aY),I i ρ→
 (∀j d,ds[j]? =some d→∀ρ,I (i+j) ρ→∃ρ1 ρ2,put d ρ=some ρ1∧body ρ1=M.ret (.nx ρ2)∧I (i+j+1) ρ2)→∃ρ',forL put body ds ρ=M.ret (.nx ρ')∧I (i+ds.length) ρ'
 |[],i,ρ,h,_=>⟨ρ,rfl,h⟩
 |d::ds,i,ρ,h,step=>by
  obtain⟨ρ1,ρ2,e1,e2,h2⟩:=step 0 d rfl ρ h
  obtain⟨ρ',e3,h3⟩:=o_ (I:=I) ds (i+1) ρ2 h2 fun j d' hd ρ hI=>by
   have:=step (j+1) d' hd ρ (by rw[show i+(j+1)=i+1+j by omega];exact hI)
   rw[show i+(j+1)+1=i+1+j+1 by omega] at this
   exact this
  refine⟨ρ',?_,?_⟩
  ·show (match put d ρ with | none=>M.stuck | some ρ1=>body ρ1>>=fun o=>match o with | .nx ρ2=>forL put body ds ρ2 | .rt v=>M.ret (.rt v))=_
   rw[e1]
   show (body ρ1>>=fun o=>match o with | .nx ρ2=>forL put body ds ρ2 | .rt v=>M.ret (.rt v))=_
   rw[e2]
   exact e3
  ·rw[show i+(d::ds).length=i+1+ds.length by simp;omega]
   exact h3
theorem mq{f:D→M (Option D)}{Pr:D→Prop}:∀(ds:List D),(∀d∈ds,∃y,f d=M.ret (some y)∧Pr y)→∃ys,cH f ds=M.ret ys∧ys.length=ds.length∧∀y∈ys,Pr y
 |[],_=>⟨[],rfl,rfl,fun _ h=>by cases h⟩
 |d::ds,h=>by
  obtain⟨y,e,hy⟩:=h d (List.mem_cons_self ..)
  obtain⟨ys,e2,hl,hp⟩:=mq ds fun d' hd=>h d' (List.mem_cons_of_mem _ hd)
  refine⟨y::ys,?_,by simp[hl],fun z hz=>?_⟩
  ·rw[cO,e,ao,e2]
   rfl
  ·cases hz with
   |head=>exact hy
   |tail _ hz=>exact hp z hz
theorem eK{f:D→M (Option D)}{g:D→D}:∀(ds:List D),(∀d∈ds,f d=M.ret (some (g d)))→cH f ds=M.ret (ds.map g)
 |[],_=>rfl
 |d::ds,h=>by
  rw[cO,h d (List.mem_cons_self ..),ao,eK ds fun d' hd=>h d' (List.mem_cons_of_mem _ hd)]
  rfl
def oP(x:Str):Bool:=!(Builtin.Str.occurrences ("abcdef":Str) x 0 ("abcdef":Str).length 1).isEmpty
structure Row (W:Nat) (r:Str):Prop where
 len:r.length=W
 let':∀c∈r.cps.toList,oP ⟨#[c]⟩=true
structure Good (bd:List Str) (W:Nat):Prop where
 r1:1≤bd.length
 r5:bd.length≤5
 w1:1≤W
 w5:W≤5
 rows:∀r∈bd,Row W r
theorem qi:∀(ys:List D),(∀y∈ys,∃c,y= .str ⟨#[c]⟩∧oP ⟨#[c]⟩=true)→∃xs,g_ ys=some xs∧xs.length=ys.length∧(xs.map (·.length)).sum=ys.length∧Row ys.length (cK xs)
 |[],_=>⟨[],rfl,rfl,rfl,rfl,fun c h=>by cases h⟩
 |y::ys,h=>by
  obtain⟨c,e,hc⟩:=h y (List.mem_cons_self ..)
  obtain⟨xs,e1,e2,e3,e4⟩:=qi ys fun z hz=>h z (List.mem_cons_of_mem _ hz)
  subst e
  refine⟨⟨#[c]⟩::xs,?_,by simp[e2],?_,?_,fun z hz=>?_⟩
  ·show (g_ ys).map _=_
   rw[e1]
   rfl
  ·rw[List.map_cons,List.sum_cons,e3]
   show 1+ys.length=_
   simp
   omega
  ·show ((⟨#[c]⟩:Str)++cK xs).length=_
   rw[eg,e4.len]
   show 1+ys.length=_
   simp
   omega
  ·have hz:z∈((⟨#[c]⟩:Str)++cK xs).cps.toList:=hz
   have:((⟨#[c]⟩:Str)++cK xs).cps= #[c]++(cK xs).cps:=rfl
   rw[this] at hz
   have hz:z∈c::(cK xs).cps.toList:=by simpa using hz
   cases hz with
   |head=>exact hc
   |tail _ hz=>exact e4.let' z hz
theorem wA{lo:Int}{n:Nat}{d:D}(h:d∈fC lo n):∃i:Nat,i<n∧d= .int (lo+(i:Int)):=by
 unfold fC at h
 obtain⟨i,hi,e⟩:=List.mem_map.mp h
 exact⟨i,List.mem_range.mp hi,e.symm⟩
theorem yt{lo:Int}{n j:Nat}{d:D}(h:(fC lo n)[j]? =some d):j<n∧d= .int (lo+(j:Int)):=by
 unfold fC at h
 rw[List.getElem?_map] at h
 by_cases hj:j<n
 ·rw[List.getElem?_range hj] at h
  cases h
  exact⟨hj,rfl⟩
 ·rw[List.getElem?_eq_none (by simpa using hj)] at h
  cases h
theorem f_(lo:Int)(n:Nat):(fC lo n).length=n:=by simp[fC]
abbrev fz(d:D):Option Sl:=some (.fz d)
theorem fI{δe:DE}{ρ:aY}{d:D}:ei 0 ba δe ρ d=(δe (fz d::ρ)>>=fun y=>M.ret (some y)):=rfl
theorem ze{δt:DT}{δe:DE}{ρ:aY}{d:D}:ei 0 δt δe ρ d=(δt (fz d::ρ)>>=fun b=>if b then δe (fz d::ρ)>>=fun y=>M.ret (some y) else M.ret none):=rfl
theorem aq{a b:DS}{ρ ρ':aY}{o:M Out}(h:a ρ=M.ret (.nx ρ'))(h2:b ρ'=o):aI a b ρ=o:=by
 unfold aI
 rw[h]
 exact h2
theorem dr{a b:DS}{ρ:aY}{d:D}(h:a ρ=M.ret (.rt d)):aI a b ρ=M.ret (.rt d):=by
 unfold aI
 rw[h]
 rfl
theorem bc{i:Nat}{δ:DE}{ρ:aY}{d:D}(h:δ ρ=M.ret d):b9 i δ ρ=M.ret (.nx (ρ.set i (fz d))):=by
 unfold b9
 rw[h]
 rfl
theorem dF{c:DT}{a b:DS}{ρ:aY}{o:M Out}(h:c ρ=M.ret true)(h2:a ρ=o):eZ c a b ρ=o:=by
 unfold eZ
 rw[h]
 exact h2
theorem cI{c:DT}{a b:DS}{ρ:aY}{o:M Out}(h:c ρ=M.ret false)(h2:b ρ=o):eZ c a b ρ=o:=by
 unfold eZ
 rw[h]
 exact h2
theorem aH{δ:DE}{ρ:aY}{d:D}(h:δ ρ=M.ret d):a_ δ ρ=M.ret (.rt d):=by
 unfold a_
 rw[h]
 rfl
theorem bx{δ:DE}{ρ:aY}{d:D}(h:δ ρ=M.ret d):fE δ ρ=M.ret (.nx ρ):=by
 unfold fE
 rw[h]
 rfl
theorem bu{n:Nat}{τ:DS}{ds:List D}{d:D}(h:τ (ds.map (fun d=>some (Sl.fz d))++List.replicate (n - ds.length) none)=M.ret (.rt d)):bE n τ ds=M.ret d:=by
 unfold bE
 rw[h]
 rfl
theorem oi{n:Nat}{τ:DS}{ds:List D}{ρ:aY}(h:τ (ds.map (fun d=>some (Sl.fz d))++List.replicate (n - ds.length) none)=M.ret (.nx ρ)):bE n τ ds=M.ret .non:=by
 unfold bE
 rw[h]
 rfl
theorem bP{n k:Nat}{τ:DS}{ds:List D}(h:τ (ds.map (fun d=>some (Sl.fz d))++List.replicate (n - ds.length) none)=M.raise k):bE n τ ds=M.raise k:=by
 unfold bE
 rw[h]
 rfl
theorem wD{put:D→aY→Option aY}{δi:DA}{b:DS}{ρ:aY}{ds:List D}{o:Out}(h:δi ρ=M.ret ds)(h2:forL put b ds ρ=M.ret o):noex (eE put δi b ρ)=M.ret o:=by
 unfold eE
 rw[h,ao,h2]
 rfl
theorem cC{is:List Nat}{τ:DS}{ρ ρ':aY}(h:τ ρ=M.ret (.nx ρ')):dQ is τ ρ=M.ret (.nx (fgt is ρ')):=by
 unfold dQ
 rw[h]
 rfl
theorem bQ{n:Nat}{δi:DA}{δt:DT}{δe:DE}{ρ:aY}{ds ys:List D}(h:δi ρ=M.ret ds)(h2:cH (ei n δt δe ρ) ds=M.ret ys)(h3:ys.length≤lim):aT n δi δt δe ρ=M.ret (.lst ys):=by
 unfold aT
 rw[h,ao,h2,vE,ao,vz h3]
theorem jg{n:Nat}(h:n≤4096):d9 [.int (n:Int)]=M.ret (fC 0 n):=by
 show (if -4096≤(n:Int)∧(n:Int)≤4096 then M.ret (fC 0 (n:Int).toNat) else M.stuck)=_
 rw[if_pos ⟨by omega,by omega⟩]
 rfl
structure Alpha (al:Str):Prop where
 pos:0<al.length
 ok:∀c∈al.cps.toList,oP ⟨#[c]⟩=true
theorem uL:Alpha "ab"∧Alpha "abc"∧Alpha "aab"∧Alpha "fa":=by
 refine⟨⟨by decide+kernel,?_⟩,⟨by decide+kernel,?_⟩,⟨by decide+kernel,?_⟩,⟨by decide+kernel,?_⟩⟩<;>decide+kernel
theorem kH{x:Str}{i:Nat}(h:i<x.length):∃c,c∈x.cps.toList∧x.cps.toList[i]? =some c∧eM (.str x) (.int (i:Int))=M.ret (.str ⟨#[c]⟩):=by
 have h:i<x.cps.toList.length:=by rw[Array.length_toList];exact h
 refine⟨x.cps.toList[i],List.getElem_mem h,List.getElem?_eq_getElem h,?_⟩
 show (match L2.atI x.cps.toList (i:Int) with | some c=>M.ret (D.str ⟨#[c]⟩) | none=>M.stuck)=_
 rw[kn (List.getElem?_eq_getElem h)]
abbrev brd(bd:List Str):D:= .tup (bd.map D.str)
abbrev sgn(at' mo:Nat)(ns:List Int)(W:Nat)(al:Str)(bd:List Str)(R:Nat)(x7 x8:Option Sl):aY:=[fz (.scr ns),fz (.int (at':Int)),fz (.int (mo:Int)),fz (.int (R:Int)),fz (.int (W:Int)),fz (.str al),fz (brd bd),x7,x8]
def Fy:DE:=aT 0 (fun ρ=>(aC (dV 4) aN) ρ>>=d9) ba (d2 eM (dV 6) (av 3 aD (aC (dV 1) (aC (d2 cw (d2 cw (d2 cw (dV 2) (dC (.int 3))) (d2 fN (dC (.int 7)) (dV 8))) (dV 0)) (aC (dA br (aC (dV 6) aN)) aN)))))
theorem uw(at' mo:Nat)(ns:List Int)(hl:ns.length≤63)(al:Str)(ha:Alpha al)(j W R:Nat)(hW:W≤5)(bd:List Str)(x8:Option Sl):
 ∃ys,Fy (sgn at' mo ns W al bd R (fz (.int (0+(j:Int)))) x8)=M.ret (.lst ys)∧ys.length=W∧∀y∈ys,∃c,y= .str ⟨#[c]⟩∧oP ⟨#[c]⟩=true:=by
 obtain⟨ys,e,BD,hp⟩:=mq (f:=ei 0 ba (d2 eM (dV 6) (av 3 aD (aC (dV 1) (aC (d2 cw (d2 cw (d2 cw (dV 2) (dC (.int 3))) (d2 fN (dC (.int 7)) (dV 8))) (dV 0)) (aC (dA br (aC (dV 6) aN)) aN)))))
  (sgn at' mo ns W al bd R (fz (.int (0+(j:Int)))) x8)) (Pr:=fun y=>∃c,y= .str ⟨#[c]⟩∧oP ⟨#[c]⟩=true) (fC 0 W) fun d hd=>by
  obtain⟨i,hi,rfl⟩:=wA hd
  obtain⟨v,hv,e⟩:=cT ns hl (at'+3+7*j+i) al.length ha.pos
  obtain⟨c,hc,_,e2⟩:=kH hv
  refine⟨.str ⟨#[c]⟩,?_,c,rfl,ha.ok c hc⟩
  rw[fI]
  have k:(at':Int)+3+7*(0+(j:Int))+(0+(i:Int))=((at'+3+7*j+i:Nat):Int):=by omega
  have m1:fN (.int 7) (.int (0+(j:Int)))=M.ret (.int (7*(0+(j:Int)))):=eO (.inl ⟨by decide,by decide⟩)
  simp only[av,d2,dV,dC,dA,aC,aN,ao,List.length_cons,List.length_nil,List.getElem?_cons_zero,List.getElem?_cons_succ,Nat.reduceAdd,if_true,fM,m1,k,br,e,e2]
 refine⟨ys,bQ (jg (n:=W) (by omega)) e (by rw[BD,f_,dI];omega),by rw[BD,f_],hp⟩
def FA:DS:=b9 6 (d2 pd (dV 6) (dA aU (aC (dM kf joinM (dC (.str "")) (aC (dV 8) aN)) aN)))
theorem xj(at' mo:Nat)(ns:List Int)(W:Nat)(al:Str)(bd:List Str)(R:Nat)(x7:Option Sl)(ys:List D)(hb:bd.length≤5)(hy:ys.length≤5)(s3:∀y∈ys,∃c,y= .str ⟨#[c]⟩∧oP ⟨#[c]⟩=true):
 ∃r,Row ys.length r∧FA (sgn at' mo ns W al bd R x7 (fz (.lst ys)))=M.ret (.nx (sgn at' mo ns W al (bd++[r]) R x7 (fz (.lst ys)))):=by
 obtain⟨xs,t1,t2,t3,t4⟩:=qi ys s3
 refine⟨cK xs,t4,?_⟩
 have jn:joinM (.str "") [.lst ys]=M.ret (.str (cK xs)):=by
  show (match g_ ys with | some (xs:List Str)=>if ("":Str).length=0∧(xs.map (fun x:Str=>x.length)).sum≤lim then M.ret (D.str (cK xs)) else M.stuck | none=>M.stuck)=_
  rw[t1]
  show (if ("":Str).length=0∧(xs.map (fun x:Str=>x.length)).sum≤lim then M.ret (D.str (cK xs)) else M.stuck)=_
  rw[if_pos ⟨rfl,by rw[t3,dI];omega⟩]
 have ct:pd (brd bd) (.tup [.str (cK xs)])=M.ret (brd (bd++[cK xs])):=by
  show (if (bd.map D.str).length+1≤lim then M.ret (D.tup (bd.map D.str++[.str (cK xs)])) else M.stuck)=_
  rw[if_pos (by rw[List.length_map,dI];omega)]
  simp[brd]
 refine(bc (d:=brd (bd++[cK xs])) ?_).trans rfl
 simp only[d2,dV,dC,dA,aC,aN,dM,kf,ao,List.getElem?_cons_zero,List.getElem?_cons_succ,if_true,jn,aU,List.length_cons,List.length_nil,dI,Nat.reduceAdd,Nat.reduceLeDiff,ct]
theorem qy(ns:List Int)(hl:ns.length≤63)(at' mo:Nat)(m0:0<mo)(m5:mo≤5):∃bd W,Good bd W∧bd.length≤mo∧W≤mo∧bq [.scr ns, .int (at':Int), .int (mo:Int)]=M.ret (brd bd):=by
 obtain⟨r,hr,e1⟩:=cT ns hl at' mo m0
 obtain⟨c,hc,e2⟩:=cT ns hl (at'+1) mo m0
 obtain⟨a,ha,e3⟩:=cT ns hl (at'+2) 4 (by decide)
 obtain⟨al,F9,e4⟩:∃al,Alpha al∧i4 (.lst [.str "ab", .str "abc", .str "aab", .str "fa"]) (.int (a:Int))=M.ret (.str al):=by
  obtain⟨a1,a2,a3,a4⟩:=uL
  match a,ha with
  |0,_=>exact⟨_,a1,rfl⟩
  |1,_=>exact⟨_,a2,rfl⟩
  |2,_=>exact⟨_,a3,rfl⟩
  |3,_=>exact⟨_,a4,rfl⟩
 have k1:(1:Int)+(r:Int)=((r+1:Nat):Int):=by omega
 have k2:(1:Int)+(c:Int)=((c+1:Nat):Int):=by omega
 have Dd:aD [.scr ns, .int (at':Int), .int (mo:Int)]=M.ret (.int (r:Int)):=e1
 have De:aD [.scr ns, .int ((at':Int)+1), .int (mo:Int)]=M.ret (.int (c:Int)):=e2
 have FI:aD [.scr ns, .int ((at':Int)+2), .int 4]=M.ret (.int (a:Int)):=e3
 obtain⟨ρ',f1,bd,f2,f3,f4⟩:=o_ (put:=putN 7) (body:=dQ [7,8] (aI (b9 8 Fy) FA))
  (I:=fun i ρ=>∃bd,ρ=sgn at' mo ns (c+1) al bd (r+1) none none∧bd.length=i∧∀z∈bd,Row (c+1) z)
  (fC 0 (r+1)) 0 (sgn at' mo ns (c+1) al [] (r+1) none none) ⟨[],rfl,rfl,fun _ h=>by cases h⟩ fun j d hd ρ ⟨bd,hρ,hb,hw⟩=>by
   obtain⟨hj,rfl⟩:=yt hd
   subst hρ
   obtain⟨ys,s1,s2,s3⟩:=uw at' mo ns hl al F9 j (c+1) (r+1) (by omega) bd none
   obtain⟨w_,t1,t2⟩:=xj at' mo ns (c+1) al bd (r+1) (fz (.int (0+(j:Int)))) ys (by omega) (by omega) s3
   refine⟨_,_,rfl,cC (aq (bc s1) t2),bd++[w_],rfl,by simp[hb],fun z hz=>?_⟩
   rcases List.mem_append.mp hz with h | h
   ·exact hw z h
   ·have h:z=w_:=by simpa using h
    subst h
    rw[s2] at t1
    exact t1
 refine⟨bd,c+1,⟨by rw[f3,f_];omega,by rw[f3,f_];omega,by omega,by omega,f4⟩,by rw[f3,f_];omega,by omega,?_⟩
 subst f2
 refine bu ?_
 refine aq (bc (d:= .int ((r+1:Nat):Int)) ?_) ?_
 ·simp only[av,d2,dV,dC,aC,aN,ao,List.map_cons,List.map_nil,List.cons_append,List.nil_append,List.length_cons,List.length_nil,List.getElem?_cons_zero,List.getElem?_cons_succ,Nat.reduceAdd,if_true,fM,Dd,k1]
 refine aq (bc (d:= .int ((c+1:Nat):Int)) ?_) ?_
 ·simp only[av,d2,dV,dC,aC,aN,ao,List.map_cons,List.map_nil,List.cons_append,List.nil_append,List.length_cons,List.length_nil,List.replicate,List.set_cons_zero,List.set_cons_succ,Nat.reduceSub,List.getElem?_cons_zero,List.getElem?_cons_succ,Nat.reduceAdd,if_true,fM,De,k2]
 refine aq (bc (d:= .str al) ?_) ?_
 ·simp only[av,d2,dV,dC,dA,aC,aN,ao,List.map_cons,List.map_nil,List.cons_append,List.nil_append,List.length_cons,List.length_nil,List.replicate,List.set_cons_zero,List.set_cons_succ,Nat.reduceSub,List.getElem?_cons_zero,List.getElem?_cons_succ,Nat.reduceAdd,if_true,fM,FI,dw,dI,Nat.reduceLeDiff,e4]
 refine aq (bc (d:= .tup []) rfl) ?_
 refine aq (wD (jg (n:=r+1) (by omega)) f1) ?_
 exact aH rfl
theorem iU(ns:List Int)(hl:ns.length≤63)(at' mo:Nat)(m0:0<mo)(m5:mo≤5):∃bd W,Good bd W∧bq [.scr ns, .int (at':Int), .int (mo:Int)]=M.ret (brd bd):=by
 obtain⟨bd,W,h1,_,_,h2⟩:=qy ns hl at' mo m0 m5
 exact⟨bd,W,h1,h2⟩
def Plain:D→Prop
 | .non | .bl _ | .int _ | .str _ | .tup _ | .lst _=>True
 |_=>False
def isStr:D→Bool
 | .str _=>true
 |_=>false
def isTup:D→Bool
 | .tup _=>true
 |_=>false
theorem ej{d:D}(h:Plain d):fB [d, .raw (.ty "str")]=M.ret (.bl (isStr d)):=by
 cases d<;>first | rfl | exact h.elim
theorem kg{d:D}(h:Plain d):fB [d, .raw (.ty "tuple")]=M.ret (.bl (isTup d)):=by
 cases d<;>first | rfl | exact h.elim
def kT:D→Bool
 | .str x=>(x.length==1)&&oP x
 |_=>false
theorem dB{ρ:aY}{i:Nat}{d:D}(h:ρ[i]? =some (fz d)):dV i ρ=M.ret d:=by
 unfold dV
 rw[h]
theorem eq_int(i j:Int):jw (.int i) (.int j)=M.ret (.bl (i==j)):=rfl
theorem ne_int(i j:Int):jx (.int i) (.int j)=M.ret (.bl (!(i==j))):=rfl
theorem len_str(x:Str):br [.str x]=M.ret (.int (x.length:Int)):=rfl
theorem in_str(x:Str):ic false (.str x) (.str "abcdef")=M.ret (.bl (oP x)):=rfl
theorem mM(a b:Nat):((a:Int)==(b:Int))=(a==b):=by
 by_cases h:a=b
 ·subst h;simp
 ·have h2:¬(a:Int)=(b:Int):=by omega
  rw[beq_eq_false_iff_ne.mpr h,beq_eq_false_iff_ne.mpr h2]
theorem xM{d:D}(h:Plain d){i:Nat}{ρ:aY}(hρ:ρ[i]? =some (fz d)):
 de (dA fB (aC (dV i) (aC (dC (.raw (.ty "str"))) aN))) (de (d2 jw (dA br (aC (dV i) aN)) (dC (.int 1))) (d2 (ic false) (dV i) (dC (.str "abcdef")))) ρ=M.ret (.bl (kT d)):=by
 have hv:=dB hρ
 have e1:=mM
 cases d with
 |str x=>
  have k:((x.length:Int)==1)=(x.length==1):=mM x.length 1
  simp only[de,dA,aC,aN,dC,d2,hv,ao,ej h,isStr,uF,if_true,len_str,eq_int,k,in_str,kT]
  cases x.length==1<;>rfl
 |non=>simp only[de,dA,aC,aN,dC,d2,hv,ao,ej h,isStr,uF,if_false,Bool.false_eq_true,kT]
 |bl b=>simp only[de,dA,aC,aN,dC,d2,hv,ao,ej h,isStr,uF,if_false,Bool.false_eq_true,kT]
 |int b=>simp only[de,dA,aC,aN,dC,d2,hv,ao,ej h,isStr,uF,if_false,Bool.false_eq_true,kT]
 |tup b=>simp only[de,dA,aC,aN,dC,d2,hv,ao,ej h,isStr,uF,if_false,Bool.false_eq_true,kT]
 |lst b=>simp only[de,dA,aC,aN,dC,d2,hv,ao,ej h,isStr,uF,if_false,Bool.false_eq_true,kT]
 |raw _=>exact h.elim
 |exc _=>exact h.elim
 |scr _=>exact h.elim
 |dct _ _=>exact h.elim
 |dci _ _=>exact h.elim
theorem eC{d:D}(h:Plain d):bH [d]=M.ret (.bl (kT d)):=bu (aH (xM h rfl))
def gx(x:Str):Bool:=x.cps.toList.all fun c=>oP ⟨#[c]⟩
def j6:D→Bool
 | .str x=>(decide (1≤x.length)&&decide (x.length≤8))&&gx x
 |_=>false
theorem s9(l:List Bool):bools (l.map D.bl)=some l:=by
 induction l with
 |nil=>rfl
 |cons b r ih=>show (bools (r.map D.bl)).map _=_;rw[ih];rfl
theorem all_map(l:List Bool):allM [.lst (l.map D.bl)]=M.ret (.bl (l.all id)):=by
 show (match bools (l.map D.bl) with | some bs=>M.ret (D.bl (bs.all id)) | none=>M.stuck)=_
 rw[s9]
theorem uT{δ:DE}{ρ:aY}{n:Nat}(h:δ ρ=M.ret (.int (n:Int))):
 da (qF (fun i j=>decide (i≤j)) (fun i j=>decide (i≤j)) (dC (.int 1)) δ (dC (.int 8))) ρ=M.ret (decide (1≤n)&&decide (n≤8)):=by
 have k1:decide ((1:Int)≤(n:Int))=decide (1≤n):=by by_cases h:1≤n<;>simp[h]<;>omega
 have k2:decide ((n:Int)≤8)=decide (n≤8):=by by_cases h:n≤8<;>simp[h]<;>omega
 simp only[da,qF,dC,h,ao,k1,k2,gI,uF]
 cases decide (1≤n)<;>rfl
theorem qU{d:D}(h:Plain d):dX [d]=M.ret (.bl (j6 d)):=by
 refine bu ?_
 have hρ:([d].map (fun d=>some (Sl.fz d))++List.replicate (1 - [d].length) none)=[fz d]:=rfl
 rw[hρ]
 have hv:dV 0 [fz d]=M.ret d:=rfl
 have no:isStr d=false→ql [fz d]=M.ret (.rt (.bl false)):=fun hs=>by
  refine dr (dF ?_ (aH rfl))
  simp only[ju,b7,bR,dA,aC,aN,dC,hv,ao,ej h,hs,qh,Bool.not_false,if_true]
 cases d with
 |str x=>
  have hi:bR (dA fB (aC (dV 0) (aC (dC (.raw (.ty "str"))) aN))) [fz (.str x)]=M.ret true:=by
   simp only[bR,dA,aC,aN,dC,hv,ao,ej h,isStr,qh]
  have hl:dA br (aC (dV 0) aN) [fz (.str x)]=M.ret (.int (x.length:Int)):=rfl
  have hc:=uT hl
  by_cases hr:(decide (1≤x.length)&&decide (x.length≤8))=true
  ·rw[hr] at hc
   refine aq (cI ?_ (ρ:=[fz (.str x)]) rfl) (aH ?_)
   ·unfold ju b7
    rw[hi,ao,ao,hc]
    rfl
   ·have hb:x.length≤8:=by simp only[Bool.and_eq_true,decide_eq_true_eq] at hr;exact hr.2
    have cm:aT 0 (fun ρ=>(dV 0) ρ>>=gh) ba (av 1 bH (aC (dV 0) aN)) [fz (.str x)]=M.ret (.lst ((x.cps.toList.map fun c=>oP ⟨#[c]⟩).map D.bl)):=by
     refine bQ (ds:=signs x) rfl ?_ ?_
     ·have:=eK (f:=ei 0 ba (av 1 bH (aC (dV 0) aN)) [fz (.str x)]) (g:=fun d=>D.bl (kT d)) (signs x) fun d hd=>by
       rw[fI]
       obtain⟨c,_,rfl⟩:=List.mem_map.mp hd
       show (bH [.str ⟨#[c]⟩]>>=fun y=>M.ret (some y))=_
       rw[eC (d:= .str ⟨#[c]⟩) trivial]
       rfl
      rw[this]
      unfold signs
      rw[List.map_map,List.map_map]
      congr 1
     ·rw[List.length_map,List.length_map,Array.length_toList,dI]
      exact Nat.le_trans hb (by decide)
    rw[dz (bA cm rfl),all_map]
    show M.ret (D.bl ((x.cps.toList.map fun c=>oP ⟨#[c]⟩).all id))=M.ret (D.bl ((decide (1≤x.length)&&decide (x.length≤8))&&gx x))
    rw[hr]
    unfold gx
    rw[List.all_map]
    rfl
  ·have hr:(decide (1≤x.length)&&decide (x.length≤8))=false:=by simpa using hr
   rw[hr] at hc
   have:j6 (.str x)=false:=by
    show ((decide (1≤x.length)&&decide (x.length≤8))&&gx x)=false
    rw[hr];rfl
   rw[this]
   refine dr (dF ?_ (aH rfl))
   unfold ju b7
   rw[hi,ao,ao,hc]
   rfl
 |non=>exact no rfl
 |bl b=>exact no rfl
 |int b=>exact no rfl
 |tup b=>exact no rfl
 |lst b=>exact no rfl
 |raw _=>exact h.elim
 |exc _=>exact h.elim
 |scr _=>exact h.elim
 |dct _ _=>exact h.elim
 |dci _ _=>exact h.elim
def gY:D→Nat
 | .str x=>x.length
 |_=>0
def gQ:D→Bool
 | .tup ds=>(decide (1≤ds.length)&&decide (ds.length≤8))&&(ds.all j6&&ds.all fun d=>gY d==gY (ds.headD .non))
 |_=>false
def Plain2:D→Prop
 | .tup ds=>∀d∈ds,Plain d
 |d=>Plain d
theorem Plain2.plain{d:D}(h:Plain2 d):Plain d:=by
 cases d<;>first | exact h | exact trivial
theorem D6{ρ:aY}{i:Nat}{ds:List D}(h:ρ[i]? =some (fz (.tup ds))):dH (dV i) ρ=M.ret ds:=by
 unfold dH
 rw[dB h]
 rfl
theorem xK{ds:List D}:br [.tup ds]=M.ret (.int (ds.length:Int)):=rfl
theorem D7{ds:List D}{d:D}{r:List D}(h:ds=d::r):bp (.tup ds) (.int 0)=M.ret d:=by
 subst h
 show (match L2.atI (d::r) ((0:Nat):Int) with | some d=>M.ret d | none=>M.stuck)=_
 rw[kn (x:=d) rfl]
theorem yu{d:D}(h:j6 d=true):∃x,d= .str x:=by
 cases d<;>first | exact⟨_,rfl⟩ | cases h
theorem tH{d:D}(h:Plain d):ju (b7 (bR (dA fB (aC (dV 0) (aC (dC (.raw (.ty "tuple"))) aN))))) (b7 (da (qF (fun i j=>decide (i≤j)) (fun i j=>decide (i≤j)) (dC (.int 1)) (dA br (aC (dV 0) aN)) (dC (.int 8))))) [fz d]=
 M.ret (match d with | .tup ds=>!(decide (1≤ds.length)&&decide (ds.length≤8)) | _=>true):=by
 have hv:dV 0 [fz d]=M.ret d:=rfl
 have no:isTup d=false→ju (b7 (bR (dA fB (aC (dV 0) (aC (dC (.raw (.ty "tuple"))) aN))))) (b7 (da (qF (fun i j=>decide (i≤j)) (fun i j=>decide (i≤j)) (dC (.int 1)) (dA br (aC (dV 0) aN)) (dC (.int 8))))) [fz d]=M.ret true:=fun hs=>by
  simp only[ju,b7,bR,dA,aC,aN,dC,hv,ao,kg h,hs,qh,Bool.not_false,if_true]
 cases d with
 |tup ds=>
  have hi:bR (dA fB (aC (dV 0) (aC (dC (.raw (.ty "tuple"))) aN))) [fz (.tup ds)]=M.ret true:=by
   simp only[bR,dA,aC,aN,dC,hv,ao,kg h,isTup,qh]
  have hl:dA br (aC (dV 0) aN) [fz (.tup ds)]=M.ret (.int (ds.length:Int)):=rfl
  unfold ju b7
  rw[hi,ao,ao,uT hl]
  rfl
 |non=>exact no rfl
 |bl b=>exact no rfl
 |int b=>exact no rfl
 |str b=>exact no rfl
 |lst b=>exact no rfl
 |raw _=>exact h.elim
 |exc _=>exact h.elim
 |scr _=>exact h.elim
 |dct _ _=>exact h.elim
 |dci _ _=>exact h.elim
theorem all_rows{ds:List D}(h:∀d∈ds,Plain d)(hl:ds.length≤8):dA allM (aC (aT 0 (dH (dV 0)) ba (av 1 dX (aC (dV 0) aN))) aN) [fz (.tup ds)]=M.ret (.bl (ds.all j6)):=by
 have cm:aT 0 (dH (dV 0)) ba (av 1 dX (aC (dV 0) aN)) [fz (.tup ds)]=M.ret (.lst ((ds.map j6).map D.bl)):=by
  refine bQ (ds:=ds) rfl ?_ (by rw[List.length_map,List.length_map,dI];omega)
  rw[List.map_map]
  refine eK (g:=D.bl∘j6) ds fun d hd=>?_
  rw[fI]
  show (dX [d]>>=fun y=>M.ret (some y))=_
  rw[qU (h d hd)]
  rfl
 rw[dz (bA cm rfl),all_map,List.all_map]
 rfl
theorem all_lens{ds:List D}(hs:∀d∈ds,∃x,d= .str x)(h0:1≤ds.length)(hl:ds.length≤8):
 dA allM (aC (aT 0 (dH (dV 0)) ba (d2 jw (dA br (aC (dV 0) aN)) (dA br (aC (d2 bp (dV 1) (dC (.int 0))) aN)))) aN) [fz (.tup ds)]=M.ret (.bl (ds.all fun d=>gY d==gY (ds.headD .non))):=by
 obtain⟨d0,r,e0⟩:∃d0 r,ds=d0::r:=by
  cases ds with
  |nil=>simp at h0
  |cons a r=>exact⟨a,r,rfl⟩
 have hh:ds.headD .non=d0:=by rw[e0];rfl
 obtain⟨x0,Fg⟩:=hs d0 (by rw[e0];exact List.mem_cons_self ..)
 have cm:aT 0 (dH (dV 0)) ba (d2 jw (dA br (aC (dV 0) aN)) (dA br (aC (d2 bp (dV 1) (dC (.int 0))) aN))) [fz (.tup ds)]=M.ret (.lst ((ds.map fun d=>gY d==gY (ds.headD .non)).map D.bl)):=by
  refine bQ (ds:=ds) rfl ?_ (by rw[List.length_map,List.length_map,dI];omega)
  rw[List.map_map]
  refine eK (g:=D.bl∘fun d=>gY d==gY (ds.headD .non)) ds fun d hd=>?_
  rw[fI]
  obtain⟨x,rfl⟩:=hs d hd
  have k:((x.length:Int)==(x0.length:Int))=(x.length==x0.length):=mM _ _
  have i0:bp (.tup ds) (.int 0)=M.ret (.str x0):=by rw[D7 e0,Fg]
  have Gp:ds.headD .non= .str x0:=by rw[hh,Fg]
  simp only[d2,dA,aC,aN,dC,dV,ao,List.getElem?_cons_zero,List.getElem?_cons_succ,len_str,i0,eq_int,k,Function.comp,gY,Gp]
 rw[dz (bA cm rfl),all_map,List.all_map]
 rfl
theorem ik{d:D}(h:Plain2 d):fc [d]=M.ret (.bl (gQ d)):=by
 refine bu ?_
 have hρ:([d].map (fun d=>some (Sl.fz d))++List.replicate (1 - [d].length) none)=[fz d]:=rfl
 rw[hρ]
 have hf:=tH h.plain
 have no:(∀ds,d≠ .tup ds)→lM [fz d]=M.ret (.rt (.bl (gQ d))):=fun hn=>by
  cases d<;>first | exact absurd rfl (hn _) | exact dr (dF hf (aH rfl))
 cases d with
 |tup ds=>
  have hf:_=M.ret (!(decide (1≤ds.length)&&decide (ds.length≤8))):=hf
  by_cases hr:(decide (1≤ds.length)&&decide (ds.length≤8))=true
  ·rw[hr] at hf
   have hb:=hr
   simp only[Bool.and_eq_true,decide_eq_true_eq] at hb
   have e:gQ (.tup ds)=(ds.all j6&&ds.all fun d=>gY d==gY (ds.headD .non)):=by
    show ((decide (1≤ds.length)&&decide (ds.length≤8))&&_)=_
    rw[hr,Bool.true_and]
   rw[e]
   have a1:=all_rows h hb.2
   refine aq (cI hf rfl) ?_
   cases hc:ds.all j6 with
   |false=>
    rw[hc] at a1
    refine dr (dF ?_ (aH rfl))
    unfold b7 bR
    rw[a1]
    rfl
   |true=>
    rw[hc] at a1
    refine aq (cI ?_ rfl) (aH ?_)
    ·unfold b7 bR
     rw[a1]
     rfl
    ·rw[Bool.true_and]
     exact all_lens (fun d hd=>yu (List.all_eq_true.mp hc d hd)) hb.1 hb.2
  ·have hr:(decide (1≤ds.length)&&decide (ds.length≤8))=false:=by simpa using hr
   rw[hr] at hf
   have e:gQ (.tup ds)=false:=by
    show ((decide (1≤ds.length)&&decide (ds.length≤8))&&_)=_
    rw[hr];rfl
   rw[e]
   exact dr (dF hf (aH rfl))
 |non=>exact no fun _ z=>by cases z
 |bl b=>exact no fun _ z=>by cases z
 |int b=>exact no fun _ z=>by cases z
 |str b=>exact no fun _ z=>by cases z
 |lst b=>exact no fun _ z=>by cases z
 |raw _=>exact h.elim
 |exc _=>exact h.elim
 |scr _=>exact h.elim
 |dct _ _=>exact h.elim
 |dci _ _=>exact h.elim
structure Brd (ob:List Str) (V:Nat):Prop where
 r1:1≤ob.length
 r8:ob.length≤8
 w1:1≤V
 w8:V≤8
 rows:∀r∈ob,Row V r
theorem Good.brd{bd:List Str}{W:Nat}(hg:Good bd W):Brd bd W:=⟨hg.r1,by have:=hg.r5;omega,hg.w1,by have:=hg.w5;omega,hg.rows⟩
theorem Brd.board{ob:List Str}{V:Nat}(h:Brd ob V):gQ (brd ob)=true:=by
 have DX:∀r∈ob,j6 (.str r)=true:=fun r hr=>by
  have q:=h.rows r hr
  show ((decide (1≤r.length)&&decide (r.length≤8))&&gx r)=true
  rw[q.len]
  have a:decide (1≤V)=true:=decide_eq_true h.w1
  have b:decide (V≤8)=true:=decide_eq_true h.w8
  rw[a,b]
  show gx r=true
  exact List.all_eq_true.mpr fun c hc=>q.let' c hc
 have h0:gY ((ob.map D.str).headD .non)=V:=by
  have:=h.r1
  have hr:=h.rows
  cases ob with
  |nil=>simp at this
  |cons x l=>exact(hr x (List.mem_cons_self ..)).len
 show ((decide (1≤(ob.map D.str).length)&&decide ((ob.map D.str).length≤8))&&((ob.map D.str).all j6&&(ob.map D.str).all fun d=>gY d==gY ((ob.map D.str).headD .non)))=true
 rw[h0,List.length_map,decide_eq_true h.r1,decide_eq_true h.r8]
 have a:(ob.map D.str).all j6=true:=List.all_eq_true.mpr fun d hd=>by
  obtain⟨r,hr,rfl⟩:=List.mem_map.mp hd
  exact DX r hr
 have b:((ob.map D.str).all fun d=>gY d==V)=true:=List.all_eq_true.mpr fun d hd=>by
  obtain⟨r,hr,rfl⟩:=List.mem_map.mp hd
  show (r.length==V)=true
  rw[(h.rows r hr).len]
  simp
 rw[a,b]
 rfl
theorem s_{bd:List Str}:Plain2 (brd bd):=fun d hd=>by
 obtain⟨r,_,rfl⟩:=List.mem_map.mp hd
 trivial
theorem e_{δ:DE}{ρ:aY}{b:Bool}(h:δ ρ=M.ret (.bl b)):bR δ ρ=M.ret b:=by
 unfold bR
 rw[h]
 rfl
theorem g9{δ:DE}{ρ:aY}{b:Bool}(h:δ ρ=M.ret (.bl b)):da δ ρ=M.ret b:=by
 unfold da
 rw[h]
 rfl
theorem iX{τ:DT}{ρ:aY}{b:Bool}(h:τ ρ=M.ret b):b7 τ ρ=M.ret (!b):=by
 unfold b7
 rw[h]
 rfl
theorem Bf{a c:DT}{ρ:aY}{p q:Bool}(h1:a ρ=M.ret p)(h2:c ρ=M.ret q):ju a c ρ=M.ret (p||q):=by
 unfold ju
 rw[h1,ao]
 cases p
 ·exact h2
 ·rfl
theorem xm{a c:DE}{ρ:aY}{p q:Bool}(h1:a ρ=M.ret (.bl p))(h2:c ρ=M.ret (.bl q)):de a c ρ=M.ret (.bl (p&&q)):=by
 unfold de
 rw[h1,ao]
 cases p
 ·rfl
 ·exact h2
theorem yG{c:DT}{a b:DE}{ρ:aY}{p:Bool}(h:c ρ=M.ret p):yF c a b ρ=if p then a ρ else b ρ:=by
 unfold yF
 rw[h]
 rfl
theorem Brd.nb{ob:List Str}{V:Nat}(h:Brd ob V):aO [brd ob]=M.ret .non:=by
 refine oi (ρ:=[fz (brd ob)]) (cI (iX (e_ (b:=true) ?_)) rfl)
 refine(ah (ds:=[brd ob]) rfl rfl).trans ?_
 rw[ik s_,h.board]
theorem Brd.len0{ob:List Str}{V:Nat}(h:Brd ob V){i:Nat}{ρ:aY}(hρ:ρ[i]? =some (fz (brd ob))):dA br (aC (d2 bp (dV i) (dC (.int 0))) aN) ρ=M.ret (.int (V:Int)):=by
 have h1:=h.r1
 have hr:=h.rows
 obtain⟨x,l,e⟩:∃x l,ob=x::l:=by
  cases ob with
  |nil=>simp at h1
  |cons x l=>exact⟨x,l,rfl⟩
 have hx:x.length=V:=(hr x (by rw[e];exact List.mem_cons_self ..)).len
 have i0:bp (brd ob) (.int 0)=M.ret (.str x):=D7 (show ob.map D.str=D.str x::l.map D.str by rw[e];rfl)
 have k:=aS (g:=bp) (dB hρ) (show dC (.int 0) ρ=M.ret (.int 0) from rfl)
 rw[i0] at k
 rw[dz (bA (xs:=[]) k rfl)]
 show M.ret (D.int (x.length:Int))=_
 rw[hx]
theorem vv{bd:List Str}{i:Nat}{ρ:aY}(hρ:ρ[i]? =some (fz (brd bd))):dA br (aC (dV i) aN) ρ=M.ret (.int (bd.length:Int)):=by
 have:br [brd bd]=M.ret (.int (bd.length:Int)):=by
  show M.ret (D.int ((bd.map D.str).length:Int))=_
  rw[List.length_map]
 simp only[dA,aC,aN,dB hρ,ao,this]
def fw:D→Bool
 | .int _=>true
 |_=>false
theorem m9{d:D}(h:Plain d):bB [d]=M.ret (.bl (fw d)):=by
 cases d<;>first | rfl | exact h.elim
def Ba(R W:Nat):D→D→Bool
 | .int a, .int b=>(decide (0≤a)&&decide (a<(R:Int)))&&(decide (0≤b)&&decide (b<(W:Int)))
 |_,_=>false
def sd(R W:Nat):D→Bool
 | .tup [u,v]=>Ba R W u v
 |_=>false
theorem Bc{δ ε:DE}{ρ:aY}{i n:Int}(h:δ ρ=M.ret (.int i))(h2:ε ρ=M.ret (.int n)):
 qF (fun i j=>decide (i≤j)) (fun i j=>decide (i<j)) (dC (.int 0)) δ ε ρ=M.ret (.bl (decide (0≤i)&&decide (i<n))):=by
 simp only[qF,dC,h,h2,ao,gI]
 cases decide (0≤i)<;>rfl
theorem jz{bd:List Str}{W:Nat}(hg:Brd bd W){d:D}(h:Plain2 d):gp [brd bd,d]=M.ret (.bl (sd bd.length W d)):=by
 refine bu ?_
 have hρ:([brd bd,d].map (fun d=>some (Sl.fz d))++List.replicate (2 - [brd bd,d].length) none)=[fz (brd bd),fz d]:=rfl
 rw[hρ]
 have hv:dV 1 [fz (brd bd),fz d]=M.ret d:=rfl
 have no:isTup d=false→m_ [fz (brd bd),fz d]=M.ret (.rt (.bl false)):=fun hs=>by
  refine dr (dF ?_ (aH rfl))
  simp only[ju,b7,bR,dA,aC,aN,dC,hv,ao,kg h.plain,hs,qh,Bool.not_false,if_true]
 cases d with
 |tup ds=>
  have hi:b7 (bR (dA fB (aC (dV 1) (aC (dC (.raw (.ty "tuple"))) aN)))) [fz (brd bd),fz (.tup ds)]=M.ret false:=by
   simp only[b7,bR,dA,aC,aN,dC,hv,ao,kg h.plain,isTup,qh,Bool.not_true]
  have k:((ds.length:Int)==2)=(ds.length==2):=mM ds.length 2
  have hl:ju (b7 (bR (dA fB (aC (dV 1) (aC (dC (.raw (.ty "tuple"))) aN))))) (da (d2 jx (dA br (aC (dV 1) aN)) (dC (.int 2)))) [fz (brd bd),fz (.tup ds)]=M.ret (!(ds.length==2)):=by
   unfold ju
   rw[hi]
   simp only[da,d2,dA,aC,aN,dC,hv,ao,xK,ne_int,k,uF,Bool.false_eq_true,if_false]
  match ds,h,hl with
  |[],h,hl=>exact dr (dF hl (aH rfl))
  |[_],h,hl=>exact dr (dF hl (aH rfl))
  |_::_::_::_,h,hl=>
   refine dr (dF (hl.trans ?_) (aH rfl))
   simp
  |[u,v],h,hl=>
   refine aq (cI hl rfl) ?_
   have pu:Plain u:=h u (by simp)
   have pv:Plain v:=h v (by simp)
   have w1:av 1 bB (aC (d2 bp (dV 1) (dC (.int 0))) aN) [fz (brd bd),fz (.tup [u,v])]=M.ret (.bl (fw u)):=m9 pu
   have w2:av 1 bB (aC (d2 bp (dV 1) (dC (.int 1))) aN) [fz (brd bd),fz (.tup [u,v])]=M.ret (.bl (fw v)):=m9 pv
   have hw:ju (b7 (bR (av 1 bB (aC (d2 bp (dV 1) (dC (.int 0))) aN)))) (b7 (bR (av 1 bB (aC (d2 bp (dV 1) (dC (.int 1))) aN)))) [fz (brd bd),fz (.tup [u,v])]=M.ret (!(fw u&&fw v)):=by
    unfold ju b7 bR
    rw[w1,w2]
    simp only[ao,qh]
    cases fw u<;>cases fw v<;>rfl
   have bad:(fw u&&fw v)=false→aI (eZ (ju (b7 (bR (av 1 bB (aC (d2 bp (dV 1) (dC (.int 0))) aN)))) (b7 (bR (av 1 bB (aC (d2 bp (dV 1) (dC (.int 1))) aN))))) (a_ (dC (.bl false))) cn) (a_ (de (qF (fun i j=>decide (i≤j)) (fun i j=>decide (i<j)) (dC (.int 0)) (d2 bp (dV 1) (dC (.int 0))) (dA br (aC (dV 0) aN))) (qF (fun i j=>decide (i≤j)) (fun i j=>decide (i<j)) (dC (.int 0)) (d2 bp (dV 1) (dC (.int 1))) (dA br (aC (d2 bp (dV 0) (dC (.int 0))) aN))))) [fz (brd bd),fz (.tup [u,v])]=M.ret (.rt (.bl false)):=fun hz=>by
    rw[hz] at hw
    exact dr (dF hw (aH rfl))
   match u,v,hw,bad with
   | .int a, .int b,hw,bad=>
     refine aq (cI hw rfl) (aH ?_)
     obtain⟨x0,r,e0⟩:∃x0 r,bd=x0::r:=by
      have:=hg.r1
      cases bd with
      |nil=>simp at this
      |cons x r=>exact⟨x,r,rfl⟩
     have hx:x0.length=W:=(hg.rows x0 (by rw[e0];simp)).len
     have l0:dA br (aC (dV 0) aN) [fz (brd bd),fz (.tup [.int a, .int b])]=M.ret (.int (bd.length:Int)):=by
      show M.ret (D.int ((bd.map D.str).length:Int))=_
      rw[List.length_map]
     have l1:dA br (aC (d2 bp (dV 0) (dC (.int 0))) aN) [fz (brd bd),fz (.tup [.int a, .int b])]=M.ret (.int (W:Int)):=by
      have i0:bp (brd bd) (.int 0)=M.ret (.str x0):=D7 (r:=r.map D.str) (by rw[e0];rfl)
      simp only[dA,aC,aN,d2,dC,dV,List.getElem?_cons_zero,ao,i0,len_str,hx]
     have c1:=Bc (δ:=d2 bp (dV 1) (dC (.int 0))) (i:=a) rfl l0
     have c2:=Bc (δ:=d2 bp (dV 1) (dC (.int 1))) (i:=b) rfl l1
     unfold de
     rw[c1,ao]
     show (if (decide (0≤a)&&decide (a<(bd.length:Int)))=true then _ else _)=M.ret (D.bl ((decide (0≤a)&&decide (a<(bd.length:Int)))&&(decide (0≤b)&&decide (b<(W:Int)))))
     cases (decide (0≤a)&&decide (a<(bd.length:Int)))
     ·rfl
     ·rw[if_pos rfl,c2,Bool.true_and]
   | .non,_,_,bad=>exact bad rfl
   | .bl _,_,_,bad=>exact bad rfl
   | .str _,_,_,bad=>exact bad rfl
   | .tup _,_,_,bad=>exact bad rfl
   | .lst _,_,_,bad=>exact bad rfl
   | .raw _,_,_,_=>exact pu.elim
   | .exc _,_,_,_=>exact pu.elim
   | .scr _,_,_,_=>exact pu.elim
   | .int a, .non,_,bad=>exact bad rfl
   | .int a, .bl _,_,bad=>exact bad rfl
   | .int a, .str _,_,bad=>exact bad rfl
   | .int a, .tup _,_,bad=>exact bad rfl
   | .int a, .lst _,_,bad=>exact bad rfl
   | .int a, .raw _,_,_=>exact pv.elim
   | .int a, .exc _,_,_=>exact pv.elim
   | .int a, .scr _,_,_=>exact pv.elim
 |non=>exact no rfl
 |bl b=>exact no rfl
 |int b=>exact no rfl
 |str b=>exact no rfl
 |lst b=>exact no rfl
 |raw _=>exact h.elim
 |exc _=>exact h.elim
 |scr _=>exact h.elim
 |dct _ _=>exact h.elim
 |dci _ _=>exact h.elim
abbrev Cell:=Nat×Nat
def cD(c:Cell):D:= .tup [.int (c.1:Int), .int (c.2:Int)]
def On(R W:Nat)(c:Cell):Prop:=c.1<R∧c.2<W
instance {R W:Nat}{c:Cell}:Decidable (On R W c):=by unfold On;infer_instance
theorem uN{c:Cell}:Plain2 (cD c):=fun d hd=>by
 have:d= .int (c.1:Int)∨d= .int (c.2:Int):=by simpa[cD] using hd
 rcases this with rfl | rfl<;>trivial
theorem xk{R W:Nat}{c:Cell}(h:On R W c):sd R W (cD c)=true:=by
 show ((decide ((0:Int)≤(c.1:Int))&&decide ((c.1:Int)<(R:Int)))&&(decide ((0:Int)≤(c.2:Int))&&decide ((c.2:Int)<(W:Int))))=true
 obtain⟨h1,h2⟩:=h
 simp
 omega
theorem Brd.nc{bd:List Str}{W:Nat}(hg:Brd bd W){c:Cell}(h:On bd.length W c):bX [brd bd,cD c]=M.ret .non:=by
 refine oi (ρ:=[fz (brd bd),fz (cD c)]) (cI (iX (e_ (b:=true) ?_)) rfl)
 refine(ah (ds:=[brd bd,cD c]) rfl rfl).trans ?_
 rw[jz hg uN,xk h]
def sZ(w:Nat):Prop:=w=4∨w=8
def ch(x:Str)(j:Nat):Nat:=x.cps.toList.getD j 0
def at2(bd:List Str)(i j:Nat):Nat:=ch (bd.getD i ⟨#[]⟩) j
abbrev lt(bd:List Str)(c:Cell):Nat:=at2 bd c.1 c.2
def sg(n:Nat):D:= .str ⟨#[n]⟩
def w4(a b:Nat):Nat:=max a b - min a b
def yZ(w:Nat)(a b:Cell):Bool:=if w=4 then decide (w4 a.1 b.1+w4 a.2 b.2=1) else decide (max (w4 a.1 b.1) (w4 a.2 b.2)=1)
theorem vH(w:Nat)(a b:Cell):yZ w a b=yZ w b a:=by
 have e:∀x y:Nat,w4 x y=w4 y x:=fun x y=>by unfold w4;omega
 unfold yZ
 rw[e a.1,e a.2]
theorem gr{put:D→aY→Option aY}{body:DS}{d:D}{ds:List D}{ρ ρ1 ρ2:aY}(h1:put d ρ=some ρ1)(h2:body ρ1=M.ret (.nx ρ2)):forL put body (d::ds) ρ=forL put body ds ρ2:=by
 show (match put d ρ with | none=>M.stuck | some ρ1=>body ρ1>>=fun o=>match o with | .nx ρ2=>forL put body ds ρ2 | .rt v=>M.ret (.rt v))=_
 rw[h1]
 show (body ρ1>>=fun o=>match o with | .nx ρ2=>forL put body ds ρ2 | .rt v=>M.ret (.rt v))=_
 rw[h2]
 rfl
section
variable{α σ:Type}{put:D→aY→Option aY}{body:DS}
theorem i3(enc:α→D)(mk:σ→aY)(step:σ→α→σ)(I:σ→Prop):∀(xs:List α) (s:σ),I s→(∀s,I s→∀x∈xs,I (step s x)∧∃ρ1,put (enc x) (mk s)=some ρ1∧body ρ1=M.ret (.nx (mk (step s x))))→
 I (xs.foldl step s)∧forL put body (xs.map enc) (mk s)=M.ret (.nx (mk (xs.foldl step s)))
 |[],s,h,_=>⟨h,rfl⟩
 |x::xs,s,h,st=>by
  obtain⟨h2,ρ1,e1,e2⟩:=st s h x (List.mem_cons_self ..)
  obtain⟨h3,e3⟩:=i3 enc mk step I xs (step s x) h2 fun s hs y hy=>st s hs y (List.mem_cons_of_mem _ hy)
  exact⟨h3,(gr e1 e2).trans e3⟩
theorem gu(enc:α→D)(ρ:aY):∀(xs:List α),(∀x∈xs,∃ρ1,put (enc x) ρ=some ρ1∧body ρ1=M.ret (.nx ρ))→forL put body (xs.map enc) ρ=M.ret (.nx ρ)
 |[],_=>rfl
 |x::xs,st=>by
  obtain⟨ρ1,e1,e2⟩:=st x (List.mem_cons_self ..)
  exact(gr e1 e2).trans (gu enc ρ xs fun y hy=>st y (List.mem_cons_of_mem _ hy))
theorem fK(enc:α→D)(mk:List D→aY)(g:α→List D){B:Nat}:∀(xs:List α) (acc:List D),(acc++xs.flatMap g).length≤B→(∀x∈xs,∀acc,(acc++g x).length≤B→∃ρ1,put (enc x) (mk acc)=some ρ1∧body ρ1=M.ret (.nx (mk (acc++g x))))→
 forL put body (xs.map enc) (mk acc)=M.ret (.nx (mk (acc++xs.flatMap g)))
 |[],acc,_,_=>by simp;rfl
 |x::xs,acc,hB,st=>by
  have EU:((acc++g x)++xs.flatMap g).length≤B:=by simpa[List.flatMap_cons,List.append_assoc] using hB
  obtain⟨ρ1,e1,e2⟩:=st x (List.mem_cons_self ..) acc (Nat.le_trans (by simp only[List.length_append];omega) EU)
  have e3:=fK enc mk g xs (acc++g x) EU fun y hy=>st y (List.mem_cons_of_mem _ hy)
  rw[List.map_cons,gr e1 e2,e3,List.flatMap_cons,List.append_assoc]
end
theorem gO{put:D→aY→Option aY}{δi:DA}{b:DS}{ρ:aY}{ds:List D}{m:M Out}(h:δi ρ=M.ret ds)(h2:forL put b ds ρ=m):eE put δi b ρ=m:=by
 unfold eE
 rw[h]
 exact h2
theorem er{τ:DS}{ρ:aY}{o:Out}(h:τ ρ=M.ret o):(fun ρ=>noex (τ ρ)) ρ=M.ret o:=by
 show noex (τ ρ)=_
 rw[h]
 rfl
theorem wB(lo n:Nat):fC (lo:Int) n=(List.range' lo n).map fun(k:Nat)=>D.int (k:Int):=by
 unfold fC
 rw[List.range_eq_range']
 have:∀(n a:Nat),(List.range' a n).map (fun (i:Nat)=>D.int ((lo:Int)+(i:Int)))=(List.range' (lo+a) n).map fun(k:Nat)=>D.int (k:Int):=by
  intro n
  induction n with
  |zero=>intro a;rfl
  |succ n ih=>
   intro a
   rw[List.range'_succ,List.range'_succ,List.map_cons,List.map_cons,ih (a+1)]
   rfl
 exact this n 0
theorem wz{δ:DE}{ρ:aY}{n:Nat}(h:δ ρ=M.ret (.int (n:Int)))(hn:n≤4096):(aC δ aN ρ>>=d9)=M.ret ((List.range n).map fun(k:Nat)=>D.int (k:Int)):=by
 rw[bA h rfl,ao,jg hn,show fC 0 n=fC ((0:Nat):Int) n from rfl,wB,List.range_eq_range']
def ck(W r:Nat):List Cell:=(List.range W).map fun k=>(r,k)
def bL(R W:Nat):List Cell:=(List.range R).flatMap (ck W)
theorem fe(R W:Nat):(bL R W).length=R*W:=by
 unfold bL
 have:∀l:List Nat,(l.flatMap (ck W)).length=l.length*W:=by
  intro l
  induction l with
  |nil=>simp
  |cons a l ih=>rw[List.flatMap_cons,List.length_append,ih,List.length_cons,Nat.succ_mul];simp[ck];omega
 rw[this,List.length_range]
theorem iW{bd:List Str}{W:Nat}(hg:Brd bd W)(r:Nat):bS [brd bd, .int (r:Int)]=M.ret (.lst ((ck W r).map cD)):=by
 have:=hg.w8
 refine bu (aH (bQ (wz (n:=W) (hg.len0 rfl) (by omega)) ?_ (by simp[ck,dI];omega)))
 rw[show (ck W r).map cD=((List.range W).map fun(k:Nat)=>D.int (k:Int)).map (fun e=> .tup [.int (r:Int),e]) by simp[ck,List.map_map];intro a _;rfl]
 exact eK (g:=fun e=> .tup [.int (r:Int),e]) _ fun e _=>rfl
theorem lQ{bd:List Str}{W:Nat}(hg:Brd bd W):du [brd bd]=M.ret (.lst ((bL bd.length W).map cD)):=by
 have h8:=hg.r8
 have w8:=hg.w8
 have hm:bd.length*W≤64:=Nat.mul_le_mul h8 w8
 have BA:(List.range bd.length).flatMap (fun r=>(ck W r).map cD)=(bL bd.length W).map cD:=by
  unfold bL;rw[List.map_flatMap]
 have e:=fK (put:=putN 2) (body:=dQ [2] (wC 1 (av 2 bS (aC (dV 0) (aC (dV 2) aN))))) (fun (k:Nat)=>D.int (k:Int)) (fun acc=>[fz (brd bd),some (.ow (.lst acc)),none]) (fun r=>(ck W r).map cD) (B:=64) (List.range bd.length) []
  (by rw[List.nil_append,BA,List.length_map,fe];exact hm) fun r hr acc hB=>by
   refine⟨[fz (brd bd),some (.ow (.lst acc)),fz (.int (r:Int))],rfl,?_⟩
   refine(cC (ρ':=[fz (brd bd),some (.ow (.lst (acc++(ck W r).map cD))),fz (.int (r:Int))]) ?_).trans rfl
   show (bS [brd bd, .int (r:Int)]>>=fun d=>lstM d>>=fun es=>if acc.length+es.length≤lim then M.ret (Out.nx (List.set [fz (brd bd),some (.ow (.lst acc)),fz (.int (r:Int))] 1 (some (.ow (.lst (acc++es)))))) else M.stuck)=_
   rw[iW hg,ao]
   show (if acc.length+((ck W r).map cD).length≤lim then M.ret (Out.nx [fz (brd bd),some (.ow (.lst (acc++(ck W r).map cD))),fz (.int (r:Int))]) else M.stuck)=_
   rw[if_pos (by rw[List.length_append] at hB;rw[dI];omega)]
 rw[List.nil_append,BA] at e
 refine bu (aq (ρ':=[fz (brd bd),some (.ow (.lst [])),none]) rfl (aq (ρ':=[fz (brd bd),some (.ow (.lst ((bL bd.length W).map cD))),none]) (er (gO (wz (n:=bd.length) (vv rfl) (by omega)) e)) ?_))
 rfl
def vB(R W w:Nat)(c:Cell):List Cell:=
 (List.range' (c.1 - 1) (min (c.1+2) R - (c.1 - 1))).flatMap fun r=>((List.range' (c.2 - 1) (min (c.2+2) W - (c.2 - 1))).map fun k=>(r,k)).filter (yZ w c)
theorem tY{R W w:Nat}(hw:sZ w){c x:Cell}:x∈vB R W w c↔On R W x∧yZ w c x=true:=by
 unfold vB On
 simp only[List.mem_flatMap,List.mem_filter,List.mem_map,List.mem_range'_1]
 constructor
 ·rintro⟨r,⟨h1,h2⟩,⟨k,⟨h3,h4⟩,rfl⟩,h5⟩
  refine⟨⟨?_,?_⟩,h5⟩
  ·show r<R;omega
  ·show k<W;omega
 ·rintro⟨⟨h1,h2⟩,h5⟩
  have h6:w4 c.1 x.1≤1∧w4 c.2 x.2≤1:=by
   unfold yZ at h5
   rcases hw with rfl | rfl
   ·rw[if_pos rfl] at h5;have:=of_decide_eq_true h5;omega
   ·rw[if_neg (by decide)] at h5;have:=of_decide_eq_true h5;omega
  unfold w4 at h6
  exact⟨x.1,⟨by omega,by omega⟩,⟨x.2,⟨by omega,by omega⟩,rfl⟩,h5⟩
abbrev nc(b c w:D)(acc:List D)(x4 x5:Option Sl):aY:=[fz b,fz c,fz w,some (.ow (.lst acc)),x4,x5]
def el(bd:List Str)(W w:Nat)(c:Cell):List Cell:=(vB bd.length W w c).filter fun x=>decide (lt bd x=lt bd c)
theorem i6{bd:List Str}{W w:Nat}(hw:sZ w){c x:Cell}:x∈el bd W w c↔On bd.length W x∧yZ w c x=true∧lt bd x=lt bd c:=by
 unfold el
 rw[List.mem_filter,tY hw,decide_eq_true_eq,and_assoc]
theorem mr{α:Type}{f:D→M (Option D)}(enc:α→D)(p:α→Bool):∀(xs:List α),(∀x∈xs,f (enc x)=M.ret (if p x then some (enc x) else none))→cH f (xs.map enc)=M.ret ((xs.filter p).map enc)
 |[],_=>rfl
 |x::xs,h=>by
  rw[List.map_cons,cO,h x (List.mem_cons_self ..),ao,mr enc p xs fun y hy=>h y (List.mem_cons_of_mem _ hy),List.filter_cons]
  cases p x<;>rfl
end K1
namespace K1
section
variable{α:Type}[DecidableEq α]
structure Bk (α:Type) where
 ks:List α
 ps:List (Option α)
 fu:List α
variable(nb:α→List α)
def Rb(a:α):Nat→α→Prop
 |0,x=>x=a
 |k+1,x=>Rb a k x∨∃y,Rb a k y∧x∈nb y
variable{nb}{a:α}
theorem Rb.mono{i j:Nat}{x:α}(h:i≤j)(r:Rb nb a i x):Rb nb a j x:=by
 induction h with
 |refl=>exact r
 |step _ ih=>exact .inl ih
structure Grown (P:α→α→Prop) (s t:Bk α):Prop where
 ex:∃fs:List (α×α),t.ks=s.ks++fs.map (·.1)∧t.ps=s.ps++fs.map (fun p=>some p.2)∧t.fu=s.fu++fs.map (·.1)∧(∀p∈fs,P p.2 p.1)
 nd:s.ks.Nodup→t.ks.Nodup
theorem Grown.trans{P:α→α→Prop}{s t u:Bk α}(h1:Grown P s t)(h2:Grown P t u):Grown P s u:=by
 obtain⟨fs,a1,a2,a3,a4⟩:=h1.ex
 obtain⟨gs,b1,b2,b3,b4⟩:=h2.ex
 refine⟨⟨fs++gs,by rw[b1,a1];simp,by rw[b2,a2];simp,by rw[b3,a3];simp,fun p hp=>?_⟩,fun h=>h2.nd (h1.nd h)⟩
 rcases List.mem_append.mp hp with h | h
 ·exact a4 p h
 ·exact b4 p h
structure Rng (nb:α→List α) (a:α) (k:Nat) (ks:List α) (ps:List (Option α)) (ring:List α):Prop where
 len:ks.length=ps.length
 nd:ks.Nodup
 mem:∀x,x∈ks↔Rb nb a k x
 rg:∀x,x∈ring↔Rb nb a k x∧∀j,Rb nb a j x→k≤j
 par:∀x p,(x,some p)∈ks.zip ps→x∈nb p∧p∈ks∧∀j,Rb nb a j x→∃i,j=i+1∧Rb nb a i p
 non:∀x,(x,none)∈ks.zip ps→x=a
 sz:k≤ks.length∧(ring≠[]→k+1≤ks.length)
theorem vD{l U:List α}(hn:l.Nodup)(h:∀x∈l,x∈U):l.length≤U.length:=by
 induction l generalizing U with
 |nil=>simp
 |cons a l ih=>
  rw[List.nodup_cons] at hn
  have hl:∀x∈l,x∈U.erase a:=fun x hx=>by
   have qt:x≠a:=fun z=>hn.1 (by rw[←z];exact hx)
   exact(List.mem_erase_of_ne qt).mpr (h x (List.mem_cons_of_mem _ hx))
  have h1:=ih hn.2 hl
  have h2:=List.length_erase_of_mem (h a (List.mem_cons_self ..))
  have h3:=List.length_pos_of_mem (h a (List.mem_cons_self ..))
  rw[List.length_cons]
  omega
end
end K1
namespace K1
open PySem L2 L3
def keyOf(c:Cell):List Key:=[.inl (c.1:Int), .inl (c.2:Int)]
def Ef:Option Cell→D
 |none=> .non
 |some c=>cD c
abbrev A9(ks:List Cell)(ps:List (Option Cell)):C:= .dct (ks.map keyOf) (ps.map Ef)
abbrev sb(b s w:D)(ks:List Cell)(ps:List (Option Cell))(x4 x5 x6 x7:Option Sl):aY:=[fz b,fz s,fz w,some (.ow (A9 ks ps)),x4,x5,x6,x7]
structure Bok (R W:Nat) (s:Bk Cell):Prop where
 len:s.ks.length=s.ps.length
 nd:s.ks.Nodup
 on:∀x∈s.ks,On R W x
 fu:s.fu.length≤s.ks.length
def hZ{α:Type}[DecidableEq α](n:Nat)(enc:α→D):Prop:=∀k x y,jv (n+k) (enc x) (enc y)=some (decide (x=y))
theorem ny(n:Nat)(i j:Int):jv n (.int i) (.int j)=some (i==j):=by cases n<;>rfl
theorem xu(n:Nat)(i j:Str):jv n (.str i) (.str j)=some (i==j):=by cases n<;>rfl
theorem nA{α:Type}[DecidableEq α]{enc:α→D}{f:D→D→Option Bool}(h:∀x y,f (enc x) (enc y)=some (decide (x=y))):∀(xs ys:List α),nz f (xs.map enc) (ys.map enc)=some (decide (xs=ys))
 |[],[]=>rfl
 |[],_::_=>by simp[nz]
 |_::_,[]=>by simp[nz]
 |x::xs,y::ys=>by
  rw[List.map_cons,List.map_cons]
  show (match f (enc x) (enc y),nz f (xs.map enc) (ys.map enc) with | some b,some r=>some (b&&r) | _,_=>none)=_
  rw[h,nA h xs ys]
  show some (decide (x=y)&&decide (xs=ys))=_
  congr 1
  by_cases h1:x=y<;>by_cases h2:xs=ys<;>simp[h1,h2]
theorem zi:hZ 1 cD:=fun k a b=>by
 rw[Nat.add_comm]
 show (match jv k (.int (a.1:Int)) (.int (b.1:Int)),nz (jv k) [.int (a.2:Int)] [.int (b.2:Int)] with | some b,some r=>some (b&&r) | _,_=>none)=_
 rw[ny]
 show (match some ((a.1:Int)==(b.1:Int)),(match jv k (.int (a.2:Int)) (.int (b.2:Int)),nz (jv k) [] [] with | some b,some r=>some (b&&r) | _,_=>none) with | some b,some r=>some (b&&r) | _,_=>none)=_
 rw[ny]
 show some (((a.1:Int)==(b.1:Int))&&(((a.2:Int)==(b.2:Int))&&true))=_
 rw[mM,mM,Bool.and_true]
 congr 1
 obtain⟨a1,a2⟩:=a
 obtain⟨b1,b2⟩:=b
 by_cases h1:a1=b1<;>by_cases h2:a2=b2<;>simp[h1,h2]
theorem xq{α:Type}[DecidableEq α]{enc:α→D}{n:Nat}(h:hZ n enc):hZ (n+1) (fun l:List α=> .lst (l.map enc)):=fun k x y=>by
 rw[show n+1+k=(n+k)+1 by omega]
 exact nA (h k) x y
theorem xt{α:Type}[DecidableEq α]{enc:α→D}{n:Nat}(h:hZ n enc):hZ (n+1) (fun l:List α=> .tup (l.map enc)):=fun k x y=>by
 rw[show n+1+k=(n+k)+1 by omega]
 exact nA (h k) x y
theorem xr:hZ 0 D.str:=fun k x y=>by
 rw[xu]
 congr 1
theorem fb:hZ 1 brd:=xt xr
theorem nu{α:Type}[DecidableEq α]{enc:α→D}{n:Nat}(h:hZ n enc)(hn:n≤6)(x y:α):jw (enc x) (enc y)=M.ret (.bl (decide (x=y))):=by
 have:=h (6 - n) x y
 rw[show n+(6 - n)=6 by omega] at this
 unfold jw
 rw[this]
theorem nv{α:Type}[DecidableEq α]{enc:α→D}{n:Nat}(h:hZ n enc)(hn:n≤6)(x y:α):jx (enc x) (enc y)=M.ret (.bl (!decide (x=y))):=by
 have:=h (6 - n) x y
 rw[show n+(6 - n)=6 by omega] at this
 unfold jx
 rw[this]
abbrev cL(l:List Cell):D:= .lst (l.map cD)
theorem BO(a b:List Cell):jx (cL a) (cL b)=M.ret (.bl (!decide (a=b))):=nv (xq zi) (by decide) a b
def FE(a b:Cell):Bool:=if a.1=b.1 then decide (a.2<b.2) else decide (a.1<b.1)
def A6(l:List Cell):Prop:=l.Pairwise fun a b=>FE a b=true
def Cn(bd:List Str)(W w:Nat)(a b:Cell):Prop:=∃j,Rb (el bd W w) a j b
theorem qV{bd:List Str}{W w:Nat}(hw:sZ w){a b:Cell}(ha:On bd.length W a)(h:b∈el bd W w a):a∈el bd W w b:=by
 obtain⟨h1,h2,h3⟩:=(i6 hw).mp h
 exact(i6 hw).mpr ⟨ha,by rw[vH];exact h2,h3.symm⟩
theorem y1{bd:List Str}{W w:Nat}(hw:sZ w){a b:Cell}(ha:On bd.length W a):∀{j:Nat},Rb (el bd W w) a j b→On bd.length W b
 |0,h=>by rw[show b=a from h];exact ha
 |j+1, .inl h=>y1 hw ha h
 |j+1, .inr ⟨y,_,hy⟩=>((i6 hw).mp hy).1
theorem lz{bd:List Str}{W w:Nat}{a c b:Cell}(h:c∈el bd W w a):∀{j:Nat},Rb (el bd W w) c j b→Rb (el bd W w) a (j+1) b
 |0,q=> .inr ⟨a,rfl,by rw[show b=c from q];exact h⟩
 |j+1, .inl q=> .inl (lz h q)
 |j+1, .inr ⟨y,q,hy⟩=> .inr ⟨y,lz h q,hy⟩
theorem oa{bd:List Str}{W w:Nat}(hw:sZ w){a b:Cell}(ha:On bd.length W a):∀{j:Nat},Rb (el bd W w) a j b→Rb (el bd W w) b j a
 |0,h=>show a=b from(show b=a from h).symm
 |j+1, .inl h=> .inl (oa hw ha h)
 |j+1, .inr ⟨y,q,hy⟩=>lz (qV hw (y1 hw ha q) hy) (oa hw ha q)
theorem lA{bd:List Str}{W w:Nat}{a b c:Cell}{i:Nat}(h:Rb (el bd W w) a i b):∀{j:Nat},Rb (el bd W w) b j c→Rb (el bd W w) a (i+j) c
 |0,q=>by rw[show c=b from q];exact h
 |j+1, .inl q=> .inl (lA h q)
 |j+1, .inr ⟨y,q,hy⟩=> .inr ⟨y,lA h q,hy⟩
section
variable{bd:List Str}{W w:Nat}{a b c:Cell}
theorem Cn.symm(hw:sZ w)(ha:On bd.length W a)(h:Cn bd W w a b):Cn bd W w b a:=let ⟨j,q⟩:=h;⟨j,oa hw ha q⟩
theorem Cn.trans(h:Cn bd W w a b)(h2:Cn bd W w b c):Cn bd W w a c:=let ⟨i,q⟩:=h;let ⟨j,r⟩:=h2;⟨i+j,lA q r⟩
end
structure IsPatch (bd:List Str) (W w:Nat) (a:Cell) (P:List Cell):Prop where
 rise:A6 P
 mem:∀x,x∈P↔Cn bd W w a x
theorem dq{δ:DE}{ρ:aY}{n:Nat}(h:δ ρ=M.raise n):fE δ ρ=M.raise n:=by
 unfold fE
 rw[h]
 rfl
theorem c6{a b:DS}{ρ:aY}{n:Nat}(h:a ρ=M.raise n):aI a b ρ=M.raise n:=by
 unfold aI
 rw[h]
 rfl
theorem sU{δ:DE}{ρ:aY}{n:Nat}(h:δ ρ=M.raise n):a_ δ ρ=M.raise n:=by
 unfold a_
 rw[h]
 rfl
def c_(n:Nat):D:= .tup [.str "refused", .int (n:Int)]
def rM(m:M D):M D:=match m with
 |some (.ex n)=>noex (zB n)
 |r=>r
theorem oq{a b:DS}{ρ:aY}{m:M D}(h:a ρ=(m>>=fun d=>M.ret (Out.rt d))):aI a b ρ=(m>>=fun d=>M.ret (Out.rt d)):=by
 unfold aI
 rw[h]
 match m with
 |none=>rfl
 |some (.ok a)=>rfl
 |some (.ex n)=>rfl
theorem iJ{n:Nat}{τ:DS}{ds:List D}{m:M D}(h:τ (ds.map (fun d=>some (Sl.fz d))++List.replicate (n - ds.length) none)=(m>>=fun d=>M.ret (Out.rt d))):bE n (wF τ fun k=>noex (zB k)) ds=rM m:=by
 unfold bE wF
 rw[h]
 match m with
 |none=>rfl
 |some (.ok a)=>rfl
 |some (.ex n)=>rfl
theorem gJ{d:D}(h:Plain2 d)(hb:gQ d=false):aO [d]=M.raise 0:=by
 refine bP (dF (iX (b:=false) (e_ ((ah (ds:=[d]) rfl rfl).trans ((ik h).trans (by rw[hb]))))) rfl)
theorem nN{bd:List Str}{W:Nat}(hg:Brd bd W){d:D}(h:Plain2 d)(hb:sd bd.length W d=false):bX [brd bd,d]=M.raise 2:=by
 refine bP (dF (iX (b:=false) (e_ ((ah (ds:=[brd bd,d]) rfl rfl).trans ((jz hg h).trans (by rw[hb]))))) rfl)
theorem gT(n:Nat):jx (c_ n) (c_ n)=M.ret (.bl false):=by
 show (match jv 6 (c_ n) (c_ n) with | some b=>M.ret (D.bl (!b)) | none=>M.stuck)=_
 have:jv 6 (c_ n) (c_ n)=some true:=by
  show (match jv 5 (.str "refused") (.str "refused"),(match jv 5 (.int (n:Int)) (.int (n:Int)),some true with | some b,some r=>some (b&&r) | _,_=>none) with | some b,some r=>some (b&&r) | _,_=>none)=_
  rw[ny,beq_self_eq_true]
  rfl
 rw[this]
 rfl
def A8(w:Nat):List Cell→Bool
 |a::b::r=>yZ w a b&&A8 w (b::r)
 |_=>true
structure IsWay (bd:List Str) (W w:Nat) (a b:Cell) (p:List Cell):Prop where
 on:∀x∈p,On bd.length W x
 hd:p.head? =some a
 lst:p.getLast? =some b
 let':∀x∈p,lt bd x=lt bd a
 Hc:A8 w p=true
structure Trail (nb:Cell→List Cell) (b:Cell) (p:List Cell) (x:Cell):Prop where
 hd:p.head? =some x
 lst:p.getLast? =some b
 ch:∀l r u v,p=l++u::v::r→u∈nb v
theorem e9{α:Type}{f:D→M (Option D)}(enc:α→D)(g:α→D):∀(xs:List α),(∀x∈xs,f (enc x)=M.ret (some (g x)))→cH f (xs.map enc)=M.ret (xs.map g)
 |[],_=>rfl
 |x::xs,h=>by
  rw[List.map_cons,cO,h x (List.mem_cons_self ..),ao,e9 enc g xs fun y hy=>h y (List.mem_cons_of_mem _ hy)]
  rfl
section
variable{bd:List Str}{W w:Nat}{a b c:Cell}{p q:List Cell}
end
theorem BN(a b:Bool):jx (.bl a) (.bl b)=M.ret (.bl (!(a==b))):=rfl
theorem lT{bd:List Str}{W:Nat}(hg:Brd bd W):bW [brd bd]=M.ret (cL (bL bd.length W)):=by
 have h8:=hg.r8
 have w8:=hg.w8
 have hm:bd.length*W≤64:=Nat.mul_le_mul h8 w8
 have BA:(List.range bd.length).flatMap (fun r=>(ck W r).map cD)=(bL bd.length W).map cD:=by
  unfold bL;rw[List.map_flatMap]
 have e:=fK (put:=putN 2) (body:=dQ [2] (b9 1 (d2 kG (dV 1) (aT 0 (fun ρ=>(aC (dA br (aC (d2 bp (dV 0) (dC (.int 0))) aN)) aN) ρ>>=d9) ba (dA aU (aC (dV 3) (aC (dV 0) aN))))))) (fun (k:Nat)=>D.int (k:Int)) (fun acc=>[fz (brd bd),fz (.lst acc),none]) (fun r=>(ck W r).map cD) (B:=64) (List.range bd.length) []
  (by rw[List.nil_append,BA,List.length_map,fe];exact hm) fun r hr acc hB=>by
   refine⟨[fz (brd bd),fz (.lst acc),fz (.int (r:Int))],rfl,?_⟩
   refine(cC (ρ':=[fz (brd bd),fz (.lst (acc++(ck W r).map cD)),fz (.int (r:Int))]) ?_).trans rfl
   have hc:aT 0 (fun ρ=>(aC (dA br (aC (d2 bp (dV 0) (dC (.int 0))) aN)) aN) ρ>>=d9) ba (dA aU (aC (dV 3) (aC (dV 0) aN))) [fz (brd bd),fz (.lst acc),fz (.int (r:Int))]=M.ret (.lst ((ck W r).map cD)):=by
    refine bQ (wz (n:=W) (hg.len0 rfl) (by omega)) ?_ (by simp[ck,dI];omega)
    rw[show (ck W r).map cD=(List.range W).map (fun k=>cD (r,k)) by simp[ck,List.map_map]]
    exact e9 (fun (k:Nat)=>D.int (k:Int)) (fun k=>cD (r,k)) _ fun k _=>rfl
   refine(bc (d:= .lst (acc++(ck W r).map cD)) ((aS (x:= .lst acc) (y:= .lst ((ck W r).map cD)) rfl hc).trans ?_)).trans rfl
   show (if acc.length+((ck W r).map cD).length≤lim then M.ret (D.lst (acc++(ck W r).map cD)) else M.stuck)=_
   rw[if_pos (by rw[List.length_append] at hB;rw[dI];omega)]
 rw[List.nil_append,BA] at e
 refine bu (aq (ρ':=[fz (brd bd),fz (.lst []),none]) rfl (aq (ρ':=[fz (brd bd),fz (.lst ((bL bd.length W).map cD)),none]) (er (gO (wz (n:=bd.length) (vv rfl) (by omega)) e)) ?_))
 rfl
end K1
namespace K1
open PySem L2 L3 HT
def fF(l:List Nat):Str:=⟨l.toArray⟩
theorem b5(l:List Nat):(fF l).cps.toList=l:=by simp[fF]
theorem sy(l:List Nat):(fF l).length=l.length:=by simp[fF,Str.length]
theorem gP(x y:Str):(x++y).cps.toList=x.cps.toList++y.cps.toList:=by
 show (x.cps++y.cps).toList=_
 simp
def mapR(g:Nat→Nat)(r:Str):Str:=fF (r.cps.toList.map g)
theorem wG(x:Str):signs x=x.cps.toList.map sg:=rfl
theorem sY:∀l:List Nat,g_ (l.map sg)=some (l.map fun c=>(⟨#[c]⟩:Str))
 |[]=>rfl
 |c::r=>by
  show (g_ (r.map sg)).map _=_
  rw[sY r]
  rfl
theorem r_:∀l:List Nat,cK (l.map fun c=>(⟨#[c]⟩:Str))=fF l
 |[]=>rfl
 |c::r=>by
  refine iI ?_
  show ((⟨#[c]⟩:Str)++cK (r.map fun c=>(⟨#[c]⟩:Str))).cps.toList=_
  rw[gP,r_ r,b5,b5]
  rfl
theorem wM:∀l:List Nat,((l.map fun c=>(⟨#[c]⟩:Str)).map (·.length)).sum=l.length
 |[]=>rfl
 |c::r=>by
  show 1+((r.map fun c=>(⟨#[c]⟩:Str)).map (·.length)).sum=_
  rw[wM r,List.length_cons]
  omega
theorem xI{l:List Nat}(h:l.length≤4096):joinM (.str "") [.lst (l.map sg)]=M.ret (.str (fF l)):=by
 show (match g_ (l.map sg) with | some (xs:List Str)=>if ("":Str).length=0∧(xs.map fun x:Str=>x.length).sum≤lim then M.ret (D.str (cK xs)) else M.stuck | none=>M.stuck)=_
 rw[sY]
 show (if ("":Str).length=0∧((l.map fun c=>(⟨#[c]⟩:Str)).map fun x:Str=>x.length).sum≤lim then M.ret (D.str (cK (l.map fun c=>(⟨#[c]⟩:Str)))) else M.stuck)=_
 rw[if_pos ⟨rfl,by have:=wM l;rw[dI];exact Nat.le_trans (Nat.le_of_eq this) h⟩,r_]
theorem kO{i:Nat}{δ:DE}{ρ:aY}{r:Str}{g:Nat→Nat}(h0:ρ[i]? =some (fz (.str r)))(hl:r.length≤4096)(hd:∀c∈r.cps.toList,δ (fz (sg c)::ρ)=M.ret (sg (g c))):
 dM kf joinM (dC (.str "")) (aC (aT 0 (fun ρ=>(dV i) ρ>>=gh) ba δ) aN) ρ=M.ret (.str (mapR g r)):=by
 have BD:r.cps.toList.length≤4096:=hl
 have cm:aT 0 (fun ρ=>(dV i) ρ>>=gh) ba δ ρ=M.ret (.lst ((r.cps.toList.map g).map sg)):=by
  refine bQ (ds:=r.cps.toList.map sg) ?_ ?_ (by rw[List.length_map,List.length_map,dI];exact BD)
  ·show (dV i ρ>>=gh)=_
   rw[dB h0]
   rfl
  ·have:∀(l:List Nat),(∀c∈l,δ (fz (sg c)::ρ)=M.ret (sg (g c)))→cH (ei 0 ba δ ρ) (l.map sg)=M.ret ((l.map g).map sg):=by
    intro l
    induction l with
    |nil=>exact fun _=>rfl
    |cons c l ih=>
     intro h
     rw[List.map_cons,cO,fI,h c (List.mem_cons_self ..),ih fun x hx=>h x (List.mem_cons_of_mem _ hx)]
     rfl
   exact this _ hd
 show (if kf (.str "") then((aC _ aN) ρ>>=fun ds=>joinM (.str "") ds) else M.stuck)=_
 rw[if_pos (show kf (.str "")=true from rfl),bA cm (xs:=[]) rfl,ao]
 exact xI (by rw[List.length_map];exact BD)
theorem u6{α β:Type}(f:α→β):∀l:List α,(l.flatMap fun r=>[f r])=l.map f
 |[]=>rfl
 |r::l=>by rw[List.flatMap_cons,u6 f l];rfl
theorem sm{d:D}{g:Nat→Nat}{i:Nat}{ρ:aY}{c:Nat}(hd:kM d=true)(hg:getM d (sg c) (sg c)=M.ret (sg (g c)))(h0:ρ[0]? =some (fz (sg c)))(h1:ρ[i]? =some (fz d)):kC (dV i) (dV 0) (dV 0) ρ=M.ret (sg (g c)):=by
 show (dV i ρ>>=fun d=>if kM d then dV 0 ρ>>=fun k=>dV 0 ρ>>=fun v=>getM d k v else M.stuck)=_
 rw[dB h1,ao,if_pos hd,dB h0,ao,ao,hg]
theorem gk{bd:List Str}{W:Nat}(hg:Brd bd W){d:D}{g:Nat→Nat}(hd:kM d=true)(DC:∀r∈bd,∀c∈r.cps.toList,getM d (sg c) (sg c)=M.ret (sg (g c))):cu [brd bd,d]=M.ret (brd (bd.map (mapR g))):=by
 have h8:=hg.r8
 have w8:=hg.w8
 have lp:=fK (put:=putN 3) (body:=dQ [3] (oj 2 (dM kf joinM (dC (.str "")) (aC (aT 0 (fun ρ=>(dV 3) ρ>>=gh) ba (kC (dV 2) (dV 0) (dV 0))) aN)))) D.str (fun acc=>[fz (brd bd),fz d,some (.ow (.lst acc)),none]) (fun r=>[.str (mapR g r)]) (B:=4000) bd [] (by
  rw[List.nil_append,u6,List.length_map]
  omega) fun r hr acc ha=>by
  refine⟨[fz (brd bd),fz d,some (.ow (.lst acc)),fz (.str r)],rfl,(cC (ρ':=[fz (brd bd),fz d,some (.ow (.lst (acc++[.str (mapR g r)]))),fz (.str r)]) ?_).trans rfl⟩
  have e:=kO (i:=3) (δ:=kC (dV 2) (dV 0) (dV 0)) (ρ:=[fz (brd bd),fz d,some (.ow (.lst acc)),fz (.str r)]) (r:=r) (g:=g) rfl (by rw[(hg.rows r hr).len];omega) fun c hc=>sm hd (DC r hr c hc) rfl rfl
  show (dM kf joinM (dC (.str "")) (aC (aT 0 (fun ρ=>(dV 3) ρ>>=gh) ba (kC (dV 2) (dV 0) (dV 0))) aN) _>>=fun d=>if acc.length<lim then M.ret (Out.nx _) else M.stuck)=_
  rw[e,ao,if_pos (by rw[dI];rw[List.length_append] at ha;simp at ha;omega)]
  rfl
 refine bu (aq (ρ':=[fz (brd bd),fz d,some (.ow (.lst [])),none]) rfl (aq (er (gO (D6 (i:=0) rfl) lp)) ?_))
 refine(aH (d:=brd (bd.map (mapR g))) ?_)
 refine(dz (xs:=[.lst (bd.flatMap fun r=>[D.str (mapR g r)])]) rfl).trans ?_
 show M.ret (D.tup (bd.flatMap fun r=>[D.str (mapR g r)]))=M.ret (D.tup ((bd.map (mapR g)).map D.str))
 rw[u6,List.map_map]
 rfl
theorem xD(c:Nat):oP ⟨#[c]⟩=decide (c∈[97,98,99,100,101,102]):=StrLaws.found_one "abcdef" c
theorem zK(l:List Nat)(c:Nat)(neg:Bool):ic neg (sg c) (.str (fF l))=M.ret (.bl (if neg then !decide (c∈l) else decide (c∈l))):=by
 have:=StrLaws.found_one (fF l) c
 rw[b5] at this
 show M.ret (D.bl (if neg then !(!(Builtin.Str.occurrences (fF l) ⟨#[c]⟩ 0 (fF l).length 1).isEmpty) else !(Builtin.Str.occurrences (fF l) ⟨#[c]⟩ 0 (fF l).length 1).isEmpty))=_
 rw[this]
theorem uK{i:Nat}(h:i<6):eM (.str "abcdef") (.int (i:Int))=M.ret (sg (97+i)):=by
 match i,h with
 |0,_=>rfl
 |1,_=>rfl
 |2,_=>rfl
 |3,_=>rfl
 |4,_=>rfl
 |5,_=>rfl
theorem vj{c:Nat}:∀{l:List Nat}{i:Nat},l[i]? =some c→l.idxOf c≤i
 |[],i,h=>by simp at h
 |a::l,0,h=>by
  have:a=c:=by simpa using h
  rw[this,List.idxOf_cons_self]
  exact Nat.le_refl _
 |a::l,i+1,h=>by
  have ih:=vj (l:=l) (i:=i) (by simpa using h)
  rw[List.idxOf_cons]
  cases a==c
  ·exact Nat.succ_le_succ ih
  ·exact Nat.zero_le _
theorem vk{l:List Nat}{c:Nat}(h:c∈l):fP (.str (fF l)) [sg c]=M.ret (.int (l.idxOf c:Int)):=by
 have zv:∀i,StrLaws.At (fF l) ⟨#[c]⟩ (fF l).length i↔l[i]? =some c:=fun i=>by
  unfold StrLaws.At Builtin.Str.subAt
  have e1:(⟨#[c]⟩:Str).length=1:=rfl
  rw[e1,sy]
  constructor
  ·rintro⟨h1,h2⟩
   have h2:=eq_of_beq h2
   have:((fF l).cps.extract i (i+1)).toList=[c]:=by rw[h2]
   rw[Array.toList_extract,b5,List.extract_eq_drop_take] at this
   have z:=congrArg (fun q=>q[0]?) this
   simp only[List.getElem?_take,List.getElem?_drop] at z
   simpa using z
  ·intro h1
   obtain⟨hi,e⟩:=List.getElem?_eq_some_iff.mp h1
   refine⟨by omega,?_⟩
   refine beq_iff_eq.mpr (Array.ext' ?_)
   rw[Array.toList_extract,b5,List.extract_eq_drop_take,List.drop_eq_getElem_cons hi,e]
   simp
 show (match Builtin.Str.occurrences (fF l) ⟨#[c]⟩ 0 (fF l).length 1 with | i::_=>M.ret (D.int (i:Int)) | []=>M.stuck)=_
 rcases StrLaws.occ_head (fF l) ⟨#[c]⟩ 1 (Nat.le_refl _) with⟨_,h2⟩ | ⟨i,r,e,h1,h2⟩
 ·exact absurd ((zv (l.idxOf c)).mpr (by rw[List.getElem?_eq_getElem (List.idxOf_lt_length_iff.mpr h),List.getElem_idxOf])) (h2 _)
 ·rw[e]
  have h1:=(zv i).mp h1
  have:i=l.idxOf c:=by
   rcases Nat.lt_or_ge (l.idxOf c) i with q | q
   ·exact absurd ((zv _).mpr (by rw[List.getElem?_eq_getElem (List.idxOf_lt_length_iff.mpr h),List.getElem_idxOf])) (h2 _ q)
   ·exact Nat.le_antisymm q (vj h1)
  rw[this]
def cf(ms:List Nat)(c:Nat):List Nat:=if c∈ms then ms else ms++[c]
theorem oU{ms:List Nat}{c x:Nat}:x∈cf ms c↔x∈ms∨x=c:=by
 unfold cf
 split
 ·rename_i h
  exact⟨.inl,fun q=>q.elim id fun e=>e▸h⟩
 ·simp
def LetOk(ms:List Nat):Prop:=ms.Nodup∧∀c∈ms,c∈[97,98,99,100,101,102]
theorem LetOk.len{ms:List Nat}(h:LetOk ms):ms.length≤6:=vD h.1 h.2
theorem LetOk.add{ms:List Nat}(h:LetOk ms){c:Nat}(hc:c∈[97,98,99,100,101,102]):LetOk (cf ms c):=by
 unfold cf
 split
 ·exact h
 ·rename_i hn
  refine⟨List.nodup_append.mpr ⟨h.1,by simp,fun a ha b hb=>?_⟩,fun x hx=>?_⟩
  ·have:b=c:=by simpa using hb
   subst this
   exact fun z=>hn (z▸ha)
  ·rcases List.mem_append.mp hx with q | q
   ·exact h.2 x q
   ·have:x=c:=by simpa using q
    rw[this]
    exact hc
theorem sR{W:Nat}{r:Str}(h:Row W r){c:Nat}(hc:c∈r.cps.toList):c∈[97,98,99,100,101,102]:=by
 have:=h.let' c hc
 rw[xD] at this
 exact of_decide_eq_true this
def kS(c:Nat):Key:= .inr ⟨#[c]⟩
theorem kP{a b:Nat}(h:kS a=kS b):a=b:=by
 have h:(⟨#[a]⟩:Str)=⟨#[b]⟩:=Sum.inr.inj h
 have h:=congrArg (fun s:Str=>s.cps.toList) h
 simpa using h
def eh(n:Nat):List D:=(List.range n).map fun i=>sg (97+i)
def sD(ms:List Nat):C:= .dci (ms.map kS) (eh ms.length)
def yY(ms:List Nat):D:= .dci (ms.map kS) (eh ms.length)
def gN(ms:List Nat)(c:Nat):Nat:=if c∈ms then 97+ms.idxOf c else c
theorem oJ{c:Nat}:∀(ms:List Nat) (f:Nat→D),hJ (ms.map kS) ((List.range ms.length).map f) (kS c)=if c∈ms then some (f (ms.idxOf c)) else none
 |[],f=>by simp[hJ]
 |m::ms,f=>by
  rw[List.length_cons,List.range_succ_eq_map,List.map_cons,List.map_cons,List.map_map]
  show (if kS m=kS c then some (f 0) else hJ (ms.map kS) ((List.range ms.length).map (f∘Nat.succ)) (kS c))=_
  by_cases h:m=c
  ·subst h
   rw[if_pos rfl,if_pos (List.mem_cons_self ..),List.idxOf_cons_self]
  ·rw[if_neg (fun z=>h (kP z)),oJ ms (f∘Nat.succ)]
   by_cases hc:c∈ms
   ·rw[if_pos hc,if_pos (List.mem_cons_of_mem _ hc),List.idxOf_cons,beq_false_of_ne h]
    rfl
   ·rw[if_neg hc,if_neg (fun z=>by rcases List.mem_cons.mp z with q | q;exact h q.symm;exact hc q)]
theorem zt(ms:List Nat)(c:Nat):getM (yY ms) (sg c) (sg c)=M.ret (sg (gN ms c)):=by
 show (match (some (hJ (ms.map kS) (eh ms.length) (kS c)):Option (Option D)) with | some (some x)=>M.ret x | some none=>M.ret (sg c) | none=>M.stuck)=_
 unfold eh gN
 rw[oJ]
 by_cases h:c∈ms
 ·rw[if_pos h,if_pos h]
 ·rw[if_neg h,if_neg h]
theorem zu(ms:List Nat)(c:Nat)(neg:Bool):pe neg (sg c) (yY ms)=M.ret (.bl (if neg then !decide (c∈ms) else decide (c∈ms))):=by
 show (match (some (hJ (ms.map kS) (eh ms.length) (kS c)):Option (Option D)) with | some o=>M.ret (D.bl (if neg then !o.isSome else o.isSome)) | none=>M.stuck)=_
 unfold eh
 rw[oJ]
 by_cases h:c∈ms
 ·rw[if_pos h,decide_eq_true h]
  rfl
 ·rw[if_neg h,decide_eq_false h]
  rfl
theorem Aw{ms:List Nat}{c:Nat}(hc:c∉ms)(hl:ms.length<6):lZ (sD ms) (sg c) (sg (97+ms.length))=some (sD (ms++[c])):=by
 show (if (eh ms.length).length<lim then some (C.dci (ly (ms.map kS) (eh ms.length) (kS c)) (iG (ms.map kS) (eh ms.length) (kS c) (sg (97+ms.length)))) else none)=_
 have hv:hJ (ms.map kS) (eh ms.length) (kS c)=none:=by
  unfold eh
  rw[oJ,if_neg hc]
 rw[if_pos (by unfold eh;rw[List.length_map,List.length_range,dI];omega)]
 unfold ly iG
 rw[hv]
 unfold sD
 rw[List.length_append,List.map_append]
 show some (C.dci (ms.map kS++[kS c]) (eh ms.length++[sg (97+ms.length)]))=some (C.dci (ms.map kS++[kS c]) (eh (ms.length+1)))
 congr 2
 unfold eh
 rw[List.range_succ,List.map_append]
 rfl
def qx(bd:List Str):List Nat:=(bd.map (·.cps.toList)).flatten
def nM(bd:List Str):List Nat:=(qx bd).foldl cf []
theorem c5{bd:List Str}{W:Nat}(hg:Brd bd W):aF [brd bd]=M.ret (brd (bd.map (mapR (gN (nM bd))))):=by
 have h8:=hg.r8
 have w8:=hg.w8
 have jn:dM kf joinM (dC (.str "")) (aC (dV 0) aN) [fz (brd bd),some (.ow (sD [])),none]=M.ret (.str (fF (qx bd))):=by
  show (match g_ (bd.map D.str) with | some (xs:List Str)=>if ("":Str).length=0∧(xs.map fun x:Str=>x.length).sum≤lim then M.ret (D.str (cK xs)) else M.stuck | none=>M.stuck)=_
  have e1:∀xs:List Str,g_ (xs.map D.str)=some xs:=by
   intro xs
   induction xs with
   |nil=>rfl
   |cons x r ih=>show (g_ (r.map D.str)).map _=_;rw[ih];rfl
  rw[e1]
  have e2:∀xs:List Str,(cK xs).cps.toList=(xs.map (·.cps.toList)).flatten:=by
   intro xs
   induction xs with
   |nil=>rfl
   |cons x r ih=>show (x++cK r).cps.toList=_;rw[gP,ih];rfl
  have e3:∀xs:List Str,(∀x∈xs,x.length≤8)→(xs.map fun x:Str=>x.length).sum≤xs.length*8:=by
   intro xs
   induction xs with
   |nil=>exact fun _=>Nat.zero_le _
   |cons x r ih=>
    intro h
    have:=ih fun y hy=>h y (List.mem_cons_of_mem _ hy)
    have:=h x (List.mem_cons_self ..)
    rw[List.map_cons,List.sum_cons,List.length_cons,Nat.add_mul]
    omega
  have e4:=e3 bd fun x hx=>by rw[(hg.rows x hx).len];exact w8
  show (if ("":Str).length=0∧(bd.map fun x:Str=>x.length).sum≤lim then M.ret (D.str (cK bd)) else M.stuck)=_
  rw[if_pos ⟨rfl,by rw[dI];omega⟩]
  congr 2
  refine iI ?_
  rw[e2,b5]
  rfl
 have DM:∀c∈qx bd,c∈[97,98,99,100,101,102]:=fun c hc=>by
  obtain⟨l,hl,h⟩:=List.mem_flatten.mp hc
  obtain⟨r,hr,rfl⟩:=List.mem_map.mp hl
  exact sR (hg.rows r hr) h
 obtain⟨_,lp⟩:=i3 (put:=putN 2) (body:=dQ [2] (eZ (A2 (da (d2 (pe true) (dV 2) (dV 1)))) (sT 1 (dV 2) (CA (d2 eM (dC (.str "abcdef")) (dA jB (aC (dV 1) aN))))) cn)) sg (fun ms=>[fz (brd bd),some (.ow (sD ms)),none]) cf LetOk (qx bd) [] ⟨List.nodup_nil,fun c h=>by cases h⟩ fun ms hm c hc=>by
  have Bu:=DM c hc
  refine⟨hm.add Bu,[fz (brd bd),some (.ow (sD ms)),fz (sg c)],rfl,?_⟩
  have yB:A2 (da (d2 (pe true) (dV 2) (dV 1))) [fz (brd bd),some (.ow (sD ms)),fz (sg c)]=M.ret (!decide (c∈ms)):=by
   show noex (da (d2 (pe true) (dV 2) (dV 1)) [fz (brd bd),fz (yY ms),fz (sg c)])=_
   rw[g9 ((aS (x:=sg c) (y:=yY ms) rfl rfl).trans (zu ms c true))]
   rfl
  by_cases h:c∈ms
  ·rw[decide_eq_true h] at yB
   refine(cC (cI yB rfl)).trans ?_
   unfold cf
   rw[if_pos h]
   rfl
  ·rw[decide_eq_false h] at yB
   have E8:ms.length<6:=by
    have:=(hm.add Bu).len
    unfold cf at this
    rw[if_neg h,List.length_append] at this
    simp at this
    omega
   have ev:CA (d2 eM (dC (.str "abcdef")) (dA jB (aC (dV 1) aN))) [fz (brd bd),some (.ow (sD ms)),fz (sg c)]=M.ret (sg (97+ms.length)):=by
    show (noex (d2 eM (dC (.str "abcdef")) (dA jB (aC (dV 1) aN)) [fz (brd bd),fz (yY ms),fz (sg c)])>>=mx)=_
    have:d2 eM (dC (.str "abcdef")) (dA jB (aC (dV 1) aN)) [fz (brd bd),fz (yY ms),fz (sg c)]=M.ret (sg (97+ms.length)):=by
     refine(aS (x:= .str "abcdef") (y:= .int (ms.length:Int)) rfl ?_).trans (uK E8)
     refine(dz (xs:=[yY ms]) rfl).trans ?_
     show M.ret (D.int ((ms.map kS).length:Int))=_
     rw[List.length_map]
    rw[this]
    rfl
   refine(cC (ρ':=[fz (brd bd),some (.ow (sD (ms++[c]))),fz (sg c)]) (dF yB ?_)).trans ?_
   ·show (CA (d2 eM (dC (.str "abcdef")) (dA jB (aC (dV 1) aN))) _>>=fun v=>dV 2 _>>=fun k=>match lZ (sD ms) k v with | some c'=>M.ret (Out.nx _) | none=>M.stuck)=_
    rw[ev,ao]
    show (match lZ (sD ms) (sg c) (sg (97+ms.length)) with | some c'=>M.ret (Out.nx ([fz (brd bd),some (.ow (sD ms)),fz (sg c)].set 1 (some (.ow c')))) | none=>M.stuck)=_
    rw[Aw h E8]
    rfl
   ·unfold cf
    rw[if_neg h]
    rfl
 refine bu (aq (bx ((ah (ds:=[brd bd]) rfl rfl).trans hg.nb)) (aq (ρ':=[fz (brd bd),some (.ow (sD [])),none]) rfl (aq (ρ':=[fz (brd bd),some (.ow (sD (nM bd))),none]) (er (gO (ds:=(qx bd).map sg) ?_ lp)) ?_)))
 ·show (dM kf joinM (dC (.str "")) (aC (dV 0) aN) _>>=gh)=_
  rw[jn]
  show M.ret (signs (fF (qx bd)))=_
  rw[wG,b5]
 ·refine aH ((ah (ds:=[brd bd,yY (nM bd)]) rfl rfl).trans (gk hg rfl fun r hr c hc=>zt _ c))
theorem mB:∀(l ms:List Nat),∃t,l.foldl cf ms=ms++t
 |[],ms=>⟨[],by simp⟩
 |c::l,ms=>by
  obtain⟨t,e⟩:=mB l (cf ms c)
  rw[List.foldl_cons,e]
  unfold cf
  split
  ·exact⟨t,rfl⟩
  ·exact⟨c::t,by simp⟩
theorem iZ:∀(l ms:List Nat) (c:Nat),c∈l∨c∈ms→c∈l.foldl cf ms
 |[],ms,c,h=>h.elim (fun z=>by cases z) id
 |a::l,ms,c,h=>by
  rw[List.foldl_cons]
  refine iZ l _ c ?_
  rcases h with h | h
  ·rcases List.mem_cons.mp h with rfl | h
   ·exact .inr (oU.mpr (.inr rfl))
   ·exact .inl h
  ·exact .inr (oU.mpr (.inl h))
theorem sr{c:Nat}(t:List Nat):∀{ms:List Nat},c∈ms→(ms++t).idxOf c=ms.idxOf c
 |[],h=>by cases h
 |m::ms,h=>by
  rw[List.cons_append,List.idxOf_cons,List.idxOf_cons]
  by_cases e:m=c
  ·subst e
   rw[beq_self_eq_true]
   rfl
  ·rw[beq_false_of_ne e]
   have:c∈ms:=by
    rcases List.mem_cons.mp h with q | q
    ·exact absurd q.symm e
    ·exact q
   show _+1=_+1
   rw[sr t this]
theorem zq{c:Nat}(t:List Nat){ms:List Nat}(h:c∈ms):gN (ms++t) c=gN ms c:=by
 unfold gN
 rw[if_pos h,if_pos (List.mem_append_left _ h),sr t h]
theorem vy{ms:List Nat}{c:Nat}(hm:LetOk ms){ρ:aY}(h1:ρ[1]? =some (fz (.str (fF ms))))(h4:ρ[4]? =some (fz (sg c))):
 d2 mC (dV 1) (d2 kI (dV 4) (dA pk (aC (d2 (ic true) (dV 4) (dV 1)) aN))) ρ=M.ret (.str (fF (cf ms c))):=by
 have hl:=hm.len
 have e1:dA pk (aC (d2 (ic true) (dV 4) (dV 1)) aN) ρ=M.ret (.int ((if c∈ms then 0 else 1:Nat):Int)):=by
  refine(dz (xs:=[.bl (!decide (c∈ms))]) (bA ((aS (dB h4) (dB h1)).trans (zK ms c true)) rfl)).trans ?_
  show M.ret (D.int (if (!decide (c∈ms))=true then 1 else 0))=_
  by_cases h:c∈ms
  ·rw[decide_eq_true h,if_pos h];rfl
  ·rw[decide_eq_false h,if_neg h];rfl
 have e2:d2 kI (dV 4) (dA pk (aC (d2 (ic true) (dV 4) (dV 1)) aN)) ρ=M.ret (.str (lC ⟨#[c]⟩ (if c∈ms then 0 else 1))):=by
  refine(aS (dB h4) e1).trans ?_
  by_cases h:c∈ms
  ·rw[if_pos h];rfl
  ·rw[if_neg h];rfl
 refine(aS (dB h1) e2).trans ?_
 have hz:(lC ⟨#[c]⟩ (if c∈ms then 0 else 1)).length≤1:=by
  rw[lD]
  have:(⟨#[c]⟩:Str).length=1:=rfl
  rw[this]
  split<;>simp
 refine(if_pos (by rw[sy,dI];omega)).trans ?_
 congr 2
 refine iI ?_
 rw[gP,b5,b5,et]
 unfold cf
 split<;>simp
def mZ:List Str→List Nat→List Str
 |[],_=>[]
 |r::l,m=>mapR (gN (r.cps.toList.foldl cf m)) r::mZ l (r.cps.toList.foldl cf m)
def GV:DS:=(dQ [3,4] (aI (eE (putN 4) (fun ρ=>(dV 3) ρ>>=gh) (dQ [4] (b9 1 (d2 mC (dV 1) (d2 kI (dV 4) (dA pk (aC (d2 (ic true) (dV 4) (dV 1)) aN))))))) (oj 2 (dM kf joinM (dC (.str "")) (aC (aT 0 (fun ρ=>(dV 3) ρ>>=gh) ba (d2 eM (dC (.str "abcdef")) (dM kf fP (dV 2) (aC (dV 0) aN)))) aN)))))
theorem sA{bd:List Str}{W:Nat}(w8:W≤8):∀(l:List Str) (ms:List Nat) (acc:List Str),LetOk ms→(∀r∈l,Row W r)→acc.length+l.length≤100→
 forL (putN 3) GV (l.map D.str) [fz (brd bd),fz (.str (fF ms)),some (.ow (.lst (acc.map D.str))),none,none]=M.ret (.nx [fz (brd bd),fz (.str (fF (l.foldl (fun m r=>r.cps.toList.foldl cf m) ms))),some (.ow (.lst ((acc++mZ l ms).map D.str))),none,none])
 |[],ms,acc,_,_,_=>by rw[mZ,List.append_nil];rfl
 |r::l,ms,acc,hm,hr,ha=>by
  have Fd:=hr r (List.mem_cons_self ..)
  rw[List.length_cons] at ha
  obtain⟨CH,lp⟩:=i3 (put:=putN 4) (body:=dQ [4] (b9 1 (d2 mC (dV 1) (d2 kI (dV 4) (dA pk (aC (d2 (ic true) (dV 4) (dV 1)) aN)))))) sg (fun ms=>[fz (brd bd),fz (.str (fF ms)),some (.ow (.lst (acc.map D.str))),fz (.str r),none]) cf LetOk r.cps.toList ms hm fun s hs c hc=>
   ⟨hs.add (sR Fd hc),[fz (brd bd),fz (.str (fF s)),some (.ow (.lst (acc.map D.str))),fz (.str r),fz (sg c)],rfl,(cC ((bc (vy hs rfl rfl)).trans rfl)).trans rfl⟩
  refine(gr (ρ1:=[fz (brd bd),fz (.str (fF ms)),some (.ow (.lst (acc.map D.str))),fz (.str r),none]) (ρ2:=[fz (brd bd),fz (.str (fF (r.cps.toList.foldl cf ms))),some (.ow (.lst ((acc++[mapR (gN (r.cps.toList.foldl cf ms)) r]).map D.str))),none,none]) rfl ((cC (ρ':=[fz (brd bd),fz (.str (fF (r.cps.toList.foldl cf ms))),some (.ow (.lst ((acc++[mapR (gN (r.cps.toList.foldl cf ms)) r]).map D.str))),fz (.str r),none]) (aq (gO (ds:=r.cps.toList.map sg) rfl lp) ?_)).trans rfl)).trans ?_
  ·have e:=kO (i:=3) (δ:=d2 eM (dC (.str "abcdef")) (dM kf fP (dV 2) (aC (dV 0) aN))) (ρ:=[fz (brd bd),fz (.str (fF (r.cps.toList.foldl cf ms))),some (.ow (.lst (acc.map D.str))),fz (.str r),none]) (r:=r) (g:=gN (r.cps.toList.foldl cf ms)) rfl (by rw[Fd.len];omega) fun c hc=>by
    have BC:=iZ r.cps.toList ms c (.inl hc)
    have j2:(r.cps.toList.foldl cf ms).idxOf c<6:=Nat.lt_of_lt_of_le (List.idxOf_lt_length_iff.mpr BC) CH.len
    refine(aS (x:= .str "abcdef") (y:= .int ((r.cps.toList.foldl cf ms).idxOf c:Int)) rfl ?_).trans ((uK j2).trans ?_)
    ·show (if kf (.str (fF (r.cps.toList.foldl cf ms))) then(M.ret [sg c]>>=fun ds=>fP (.str (fF (r.cps.toList.foldl cf ms))) ds) else M.stuck)=_
     exact(if_pos rfl).trans (vk BC)
    ·unfold gN
     rw[if_pos BC]
   show (dM kf joinM (dC (.str "")) (aC (aT 0 (fun ρ=>(dV 3) ρ>>=gh) ba (d2 eM (dC (.str "abcdef")) (dM kf fP (dV 2) (aC (dV 0) aN)))) aN) _>>=fun d=>if (acc.map D.str).length<lim then M.ret (Out.nx _) else M.stuck)=_
   rw[e,ao,if_pos (by rw[List.length_map,dI];omega),List.map_append]
   rfl
  ·have ih:=sA (bd:=bd) w8 l (r.cps.toList.foldl cf ms) (acc++[mapR (gN (r.cps.toList.foldl cf ms)) r]) CH (fun x hx=>hr x (List.mem_cons_of_mem _ hx)) (by rw[List.length_append];simp;omega)
   refine ih.trans ?_
   rw[List.foldl_cons,mZ,List.append_assoc]
   rfl
theorem p7{M:List Nat}:∀(l:List Str) (ms:List Nat),(∃t,M=l.foldl (fun m r=>r.cps.toList.foldl cf m) ms++t)→mZ l ms=l.map (mapR (gN M))
 |[],_,_=>rfl
 |r::l,ms,⟨t,h⟩=>by
  rw[mZ,p7 l _ ⟨t,h⟩,List.map_cons]
  congr 1
  have:∃u,M=r.cps.toList.foldl cf ms++u:=by
   have gen:∀(l:List Str) (m:List Nat),∃u,l.foldl (fun m r=>r.cps.toList.foldl cf m) m=m++u:=by
    intro l
    induction l with
    |nil=>exact fun m=>⟨[],by simp⟩
    |cons r l ih=>
     intro m
     obtain⟨u,e⟩:=ih (r.cps.toList.foldl cf m)
     obtain⟨u2,e2⟩:=mB r.cps.toList m
     exact⟨u2++u,by rw[List.foldl_cons,e,e2,List.append_assoc]⟩
   obtain⟨u,e⟩:=gen l (r.cps.toList.foldl cf ms)
   exact⟨u++t,by rw[h,List.foldl_cons,e,List.append_assoc]⟩
  obtain⟨u,e⟩:=this
  unfold mapR
  congr 1
  refine List.map_congr_left fun c hc=>?_
  rw[e,zq u (iZ r.cps.toList ms c (.inl hc))]
theorem tZ(bd:List Str):nM bd=bd.foldl (fun m r=>r.cps.toList.foldl cf m) []:=by
 unfold nM qx
 rw[List.foldl_flatten,List.foldl_map]
theorem cR{bd:List Str}{W:Nat}(hg:Brd bd W):aW [brd bd]=M.ret (brd (bd.map (mapR (gN (nM bd))))):=by
 have lp:=sA (bd:=bd) hg.w8 bd [] [] ⟨List.nodup_nil,fun c h=>by cases h⟩ hg.rows (by have:=hg.r8;simp;omega)
 rw[List.nil_append,p7 (M:=nM bd) bd [] ⟨[],by rw[List.append_nil,tZ]⟩] at lp
 refine bu (aq (ρ':=[fz (brd bd),fz (.str (fF [])),none,none,none]) rfl (aq (ρ':=[fz (brd bd),fz (.str (fF [])),some (.ow (.lst (([]:List Str).map D.str))),none,none]) rfl (aq (er (gO (D6 (i:=0) rfl) lp)) ?_)))
 exact aH rfl
def nq(bd:List Str)(lo hi:Option Int):List Str:=(bd.drop (sIx bd.length 0 lo)).take (sIx bd.length bd.length hi - sIx bd.length 0 lo)
theorem zf(bd:List Str)(lo hi:Option Int):cutD (bd.map D.str) lo hi=(nq bd lo hi).map D.str:=by
 unfold cutD nq
 rw[List.length_map,←List.map_drop,←List.map_take]
def dE(bd:List Str)(a b c d:Int):List Str:=(nq bd (some a) (some b)).map fun r=>Txt.slice r (some c) (some d)
theorem uV(bd:List Str)(lo hi:Option Int):(nq bd lo hi).length≤bd.length:=by
 unfold nq
 rw[List.length_take,List.length_drop]
 omega
theorem lh{bd:List Str}{W:Nat}(hg:Brd bd W){a b c d:Int}{δt δl:DO}{δc δd:DO}{i:Nat}{ρ:aY}(h0:ρ[i]? =some (fz (brd bd)))(ha:δt ρ=M.ret (some a))(hb:δl ρ=M.ret (some b))(hc:∀x,δc (x::ρ)=M.ret (some c))(hd:∀x,δd (x::ρ)=M.ret (some d)):
 dA gi (aC (aT 0 (dH (nr (dV i) δt δl)) ba (nr (dV 0) δc δd)) aN) ρ=M.ret (brd (dE bd a b c d)):=by
 have h8:=hg.r8
 have cm:aT 0 (dH (nr (dV i) δt δl)) ba (nr (dV 0) δc δd) ρ=M.ret (.lst ((dE bd a b c d).map D.str)):=by
  refine bQ (ds:=(nq bd (some a) (some b)).map D.str) ?_ ?_ (by unfold dE;rw[List.length_map,List.length_map,dI];have:=uV bd (some a) (some b);omega)
  ·have e:nr (dV i) δt δl ρ=M.ret (.tup ((nq bd (some a) (some b)).map D.str)):=by
    unfold nr
    rw[dB h0,ao,ha,ao,hb,ao]
    show M.ret (D.tup (cutD (bd.map D.str) (some a) (some b)))=_
    rw[zf]
   unfold dH
   rw[e]
   rfl
  ·unfold dE
   rw[List.map_map]
   have:∀l:List Str,cH (ei 0 ba (nr (dV 0) δc δd) ρ) (l.map D.str)=M.ret (l.map (D.str∘fun r=>Txt.slice r (some c) (some d))):=by
    intro l
    induction l with
    |nil=>rfl
    |cons r l ih=>
     have e:nr (dV 0) δc δd (fz (.str r)::ρ)=M.ret (.str (Txt.slice r (some c) (some d))):=by
      show (M.ret (D.str r)>>=fun d=>δc (fz (.str r)::ρ)>>=fun l=>δd (fz (.str r)::ρ)>>=fun h=>Fq d l h)=_
      rw[ao,hc,ao,hd]
      rfl
     rw[List.map_cons,cO,fI,e,ih]
     rfl
   exact this _
 exact(dz (xs:=[.lst ((dE bd a b c d).map D.str)]) (bA cm rfl)).trans rfl
theorem eT{bd:List Str}{W:Nat}(hg:Brd bd W)(a b c d:Int):bU [brd bd, .int a, .int b, .int c, .int d]=M.ret (brd (dE bd a (c+1) b (d+1))):=
 bu (aH (lh hg (i:=0) rfl rfl rfl (fun _=>rfl) (fun _=>rfl)))
def d7(bd pt:List Str)(V:Nat)(x:Cell):Bool:=decide (dE bd (x.1:Int) ((x.1:Int)+(pt.length:Int)) (x.2:Int) ((x.2:Int)+(V:Int))=pt)
theorem vx{bd pt:List Str}{W V:Nat}(hg:Brd bd W)(hp:Brd pt V)(x:Cell):dU [brd bd,brd pt,cD x]=M.ret (.bl (d7 bd pt V x)):=by
 refine bu ?_
 refine aq (ρ':=[fz (brd bd),fz (brd pt),fz (cD x),fz (.int ((x.1:Int)+(pt.length:Int) - 1)),none]) ((bc (d:= .int ((x.1:Int)+(pt.length:Int) - 1)) ((aS (x:= .int ((x.1:Int)+(pt.length:Int))) (y:= .int 1) ((aS (x:= .int (x.1:Int)) rfl (vv (i:=1) rfl)).trans rfl) rfl).trans rfl)).trans rfl) ?_
 refine aq (ρ':=[fz (brd bd),fz (brd pt),fz (cD x),fz (.int ((x.1:Int)+(pt.length:Int) - 1)),fz (.int ((x.2:Int)+(V:Int) - 1))]) ((bc (d:= .int ((x.2:Int)+(V:Int) - 1)) ((aS (x:= .int ((x.2:Int)+(V:Int))) (y:= .int 1) ((aS (x:= .int (x.2:Int)) rfl (hp.len0 (i:=1) rfl)).trans rfl) rfl).trans rfl)).trans rfl) ?_
 refine aH ((aS (x:=brd (dE bd (x.1:Int) ((x.1:Int)+(pt.length:Int)) (x.2:Int) ((x.2:Int)+(V:Int)))) (y:=brd pt) ((ah (ds:=[brd bd, .int (x.1:Int), .int (x.2:Int), .int ((x.1:Int)+(pt.length:Int) - 1), .int ((x.2:Int)+(V:Int) - 1)]) rfl rfl).trans ((eT hg ..).trans ?_)) rfl).trans (nu fb (by decide) _ _))
 rw[Int.sub_add_cancel,Int.sub_add_cancel]
theorem tJ{bd pt:List Str}{W V:Nat}(hg:Brd bd W)(hp:Brd pt V):cQ [brd bd,brd pt]=M.ret (cL ((bL bd.length W).filter (d7 bd pt V))):=by
 refine bu (aq (bx ((ah (ds:=[brd bd]) rfl rfl).trans hg.nb)) (aq (bx ((ah (ds:=[brd pt]) rfl rfl).trans hp.nb)) (aH ?_)))
 have hl:((bL bd.length W).filter (d7 bd pt V)).length≤64:=Nat.le_trans (List.length_filter_le ..) (by rw[fe];exact Nat.mul_le_mul hg.r8 hg.w8)
 refine bQ (ds:=(bL bd.length W).map cD) ?_ (mr cD (d7 bd pt V) _ fun x hx=>?_) (by rw[List.length_map,dI];omega)
 ·show (av 1 du (aC (dV 0) aN) _>>=lstM)=_
  exact congrArg (· >>=lstM) ((ah (ds:=[brd bd]) rfl rfl).trans (lQ hg))
 ·rw[ze]
  have e:bR (av 3 dU (aC (dV 1) (aC (dV 2) (aC (dV 0) aN)))) [fz (cD x),fz (brd bd),fz (brd pt)]=M.ret (d7 bd pt V x):=e_ ((ah (ds:=[brd bd,brd pt,cD x]) rfl rfl).trans (vx hg hp x))
  show (bR (av 3 dU (aC (dV 1) (aC (dV 2) (aC (dV 0) aN)))) [fz (cD x),fz (brd bd),fz (brd pt)]>>=fun b=>if b then(dV 0 [fz (cD x),fz (brd bd),fz (brd pt)]>>=fun y=>M.ret (some y)) else M.ret none)=_
  rw[e]
  cases d7 bd pt V x<;>rfl
theorem ux{W:Nat}{r:Str}(h:Row W r){c d:Nat}(h1:c≤d)(h2:d<W):Row (d+1 - c) (Txt.slice r (some (c:Int)) (some ((d:Int)+1))):=by
 have hl:r.cps.toList.length=W:=h.len
 have e:=eq_of_beq (PyProof.Rows.slice_closesL (x:=r) (i:=(c:Int)) (j:=(d:Int)+1) (by omega) (by omega) (by rw[h.len];omega))
 rw[e]
 have hn:((d:Int)+1 - (c:Int)).toNat=d+1 - c:=by omega
 refine⟨?_,fun x hx=>h.let' x ?_⟩
 ·show ((r.cps.toList.drop (c:Int).toNat).take ((d:Int)+1 - (c:Int)).toNat).toArray.size=_
  rw[List.size_toArray,List.length_take,List.length_drop,hl,hn]
  simp
  omega
 ·have hx:x∈(r.cps.toList.drop (c:Int).toNat).take ((d:Int)+1 - (c:Int)).toNat:=by simpa using hx
  exact List.mem_of_mem_drop (List.mem_of_mem_take hx)
theorem uh{bd:List Str}{W:Nat}(hG:Good bd W){x y:Cell}(hx:On bd.length W x)(hy:On bd.length W y)(h1:x.1≤y.1)(h2:x.2≤y.2):Good (dE bd (x.1:Int) ((y.1:Int)+1) (x.2:Int) ((y.2:Int)+1)) (y.2+1 - x.2):=by
 have hlen:(nq bd (some (x.1:Int)) (some ((y.1:Int)+1))).length=y.1+1 - x.1:=by
  unfold nq
  have e1:sIx bd.length 0 (some (x.1:Int))=x.1:=by rw[sIx_nat];have:=hx.1;omega
  have e2:sIx bd.length bd.length (some ((y.1:Int)+1))=y.1+1:=by
   have:(y.1:Int)+1=((y.1+1:Nat):Int):=by omega
   rw[this,sIx_nat]
   have:=hy.1
   omega
  rw[e1,e2,List.length_take,List.length_drop]
  have:=hy.1
  omega
 have r5:=hG.r5
 have w5:=hG.w5
 have b1:=hy.1
 have b2:=hy.2
 refine⟨?_,?_,by omega,by omega,fun r hr=>?_⟩
 ·unfold dE;rw[List.length_map,hlen];omega
 ·unfold dE;rw[List.length_map,hlen];omega
 ·unfold dE at hr
  obtain⟨s,hs,rfl⟩:=List.mem_map.mp hr
  exact ux (hG.rows s (List.mem_of_mem_drop (List.mem_of_mem_take hs))) h2 b2
def sk(p q c:Nat):Nat:=if c=p then(if p=q then p else q) else if c=q then p else c
theorem sf(p q:Nat):∃d,kM d=true∧(∀c,getM d (sg c) (sg c)=M.ret (sg (sk p q c)))∧∀{a b c e:DE}{ρ:aY},a ρ=M.ret (sg p)→b ρ=M.ret (sg q)→c ρ=M.ret (sg q)→e ρ=M.ret (sg p)→kB a b c e ρ=M.ret d:=by
 refine⟨(if kS p=kS q then C.dci [kS p] [sg p] else C.dci [kS p,kS q] [sg q,sg p]).d,?_,fun c=>?_,fun h1 h2 h3 h4=>?_⟩
 ·split<;>rfl
 ·by_cases DV:p=q
  ·subst DV
   rw[if_pos rfl]
   show (match (some (if kS p=kS c then some (sg p) else none):Option (Option D)) with | some (some x)=>M.ret x | some none=>M.ret (sg c) | none=>M.stuck)=_
   unfold sk
   by_cases h:c=p
   ·rw[if_pos (by rw[h]),if_pos h,if_pos rfl]
   ·rw[if_neg (fun z=>h (kP z).symm),if_neg h,if_neg h]
  ·rw[if_neg (fun z=>DV (kP z))]
   show (match (some (if kS p=kS c then some (sg q) else if kS q=kS c then some (sg p) else none):Option (Option D)) with | some (some x)=>M.ret x | some none=>M.ret (sg c) | none=>M.stuck)=_
   unfold sk
   by_cases h:c=p
   ·rw[if_pos (by rw[h]),if_pos h,if_neg DV]
   ·rw[if_neg (fun z=>h (kP z).symm),if_neg h]
    by_cases h':c=q
    ·rw[if_pos (by rw[h']),if_pos h']
    ·rw[if_neg (fun z=>h' (kP z).symm),if_neg h']
 ·unfold kB
  rw[h1,h2,h3,h4]
  rfl
theorem sW{b p q r s:D}:ai [.int 0,b, .tup [p,q], .tup [r,s]]=rM (cq [b,p,q,r,s]):=iJ (oq rfl)
theorem wV{b x y:D}:ai [.int 1,b,x,y]=rM (cQ [b,x]):=iJ (aq rfl (oq rfl))
theorem y7{b x y:D}:ai [.int 2,b,x,y]=rM (aF [b]):=iJ (aq rfl (oq rfl))
theorem wW{b x y:D}:ai [.int 3,b,x,y]=rM (cP [b,x]):=iJ (aq rfl (aq rfl rfl))
theorem sX{b x y:D}:ai [.int 4,b,x,y]=rM (cU [b,x,y]):=iJ (aq rfl (aq rfl rfl))
theorem js(ns:List Int)(hl:ns.length≤63){bd:List Str}{W:Nat}(hg:Brd bd W)(k:Nat):∃c,On bd.length W c∧bM [.scr ns, .int (k:Int),brd bd]=M.ret (cD c):=by
 obtain⟨v,hv,e⟩:=cT ns hl k bd.length hg.r1
 obtain⟨u,hu,e2⟩:=cT ns hl (k+1) W hg.w1
 refine⟨(v,u),⟨hv,hu⟩,bu (aH ((dz (xs:=[.int (v:Int), .int (u:Int)]) (bA ?_ (bA ?_ rfl))).trans rfl))⟩
 ·exact(ah (ds:=[.scr ns, .int (k:Int), .int (bd.length:Int)]) (bA rfl (bA rfl (bA (vv (i:=2) rfl) rfl))) rfl).trans e
 ·exact(ah (ds:=[.scr ns, .int ((k+1:Nat):Int), .int (W:Int)]) (bA rfl (bA rfl (bA (hg.len0 (i:=2) rfl) rfl))) rfl).trans e2
section
variable{bd:List Str}{W:Nat}
def i_(x y:Cell):Bool:=decide ((x.1:Int)≤(y.1:Int))&&decide ((x.2:Int)≤(y.2:Int))
theorem xl(hg:Brd bd W){x y:Cell}(hx:On bd.length W x)(hy:On bd.length W y):
 cq [brd bd, .int (x.1:Int), .int (x.2:Int), .int (y.1:Int), .int (y.2:Int)]=if i_ x y then M.ret (brd (dE bd (x.1:Int) ((y.1:Int)+1) (x.2:Int) ((y.2:Int)+1))) else M.raise 2:=by
 have t:ju (da (d2 AR (dV 3) (dV 1))) (da (d2 AR (dV 4) (dV 2))) [fz (brd bd),fz (.int (x.1:Int)),fz (.int (x.2:Int)),fz (.int (y.1:Int)),fz (.int (y.2:Int))]=M.ret (!i_ x y):=by
  refine(Bf (p:=decide ((y.1:Int)<(x.1:Int))) (q:=decide ((y.2:Int)<(x.2:Int))) (g9 rfl) (g9 rfl)).trans ?_
  unfold i_
  congr 1
  by_cases h1:x.1≤y.1<;>by_cases h2:x.2≤y.2<;>simp[h1,h2]<;>omega
 have n1:fE (av 1 aO (aC (dV 0) aN)) [fz (brd bd),fz (.int (x.1:Int)),fz (.int (x.2:Int)),fz (.int (y.1:Int)),fz (.int (y.2:Int))]=_:=bx ((ah (ds:=[brd bd]) rfl rfl).trans hg.nb)
 have n2:fE (av 2 bX (aC (dV 0) (aC (dA aU (aC (dV 1) (aC (dV 2) aN))) aN))) [fz (brd bd),fz (.int (x.1:Int)),fz (.int (x.2:Int)),fz (.int (y.1:Int)),fz (.int (y.2:Int))]=_:=bx ((ah (ds:=[brd bd,cD x]) rfl rfl).trans (hg.nc hx))
 have n3:fE (av 2 bX (aC (dV 0) (aC (dA aU (aC (dV 3) (aC (dV 4) aN))) aN))) [fz (brd bd),fz (.int (x.1:Int)),fz (.int (x.2:Int)),fz (.int (y.1:Int)),fz (.int (y.2:Int))]=_:=bx ((ah (ds:=[brd bd,cD y]) rfl rfl).trans (hg.nc hy))
 cases h:i_ x y with
 |true=>
  rw[h] at t
  rw[if_pos rfl]
  exact bu (aq n1 (aq n2 (aq n3 (aq (cI t rfl) (aH ((ah (ds:=[brd bd, .int (x.1:Int), .int (x.2:Int), .int (y.1:Int), .int (y.2:Int)]) rfl rfl).trans (eT hg ..)))))))
 |false=>
  rw[h] at t
  rw[if_neg (by decide)]
  exact bP (aq n1 (aq n2 (aq n3 (c6 (dF t rfl)))))
theorem ng{b2:List Str}{V:Nat}(hg:Brd bd W)(hp:Brd b2 V):cP [brd bd,brd b2]=M.ret (.bl (decide (bd.map (mapR (gN (nM bd)))=b2.map (mapR (gN (nM b2)))))):=
 bu (aH ((aS ((ah (ds:=[brd bd]) rfl rfl).trans (c5 hg)) ((ah (ds:=[brd b2]) rfl rfl).trans (c5 hp))).trans (nu fb (by decide) _ _)))
theorem qX{p:Nat}(h:oP ⟨#[p]⟩=true):cb [sg p]=M.ret .non:=
 oi (cI (iX (b:=true) (e_ ((ah (ds:=[sg p]) rfl rfl).trans ((eC (d:=sg p) trivial).trans (by show M.ret (D.bl (true&&oP ⟨#[p]⟩))=_;rw[h];rfl))))) rfl)
theorem BP{d:D}(h:Plain d)(hb:kT d=false):cb [d]=M.raise 3:=
 bP (dF (iX (b:=false) (e_ ((ah (ds:=[d]) rfl rfl).trans ((eC h).trans (by rw[hb]))))) rfl)
theorem qf(hg:Brd bd W){p q:Nat}(hp:oP ⟨#[p]⟩=true)(hq:oP ⟨#[q]⟩=true):cU [brd bd,sg p,sg q]=M.ret (brd (bd.map (mapR (sk p q)))):=by
 obtain⟨d,d1,d2,d3⟩:=sf p q
 exact bu (aq (bx ((ah (ds:=[brd bd]) rfl rfl).trans hg.nb)) (aq (bx ((ah (ds:=[sg p]) rfl rfl).trans (qX hp))) (aq (bx ((ah (ds:=[sg q]) rfl rfl).trans (qX hq))) (aH ((ah (ds:=[brd bd,d]) (bA rfl (bA (d3 rfl rfl rfl rfl) rfl)) rfl).trans (gk hg d1 fun r hr c hc=>d2 c))))))
def xc:List (D×D):=[(.int 9, .int 0),(.int 0, .int (-1)),(.non, .int 0),(.int 0, .bl true),(.str "0", .int 0)]
theorem xf{R W:Nat}(hR:R≤8){p:D×D}(h:p∈xc):Plain2 (.tup [p.1,p.2])∧sd R W (.tup [p.1,p.2])=false:=by
 unfold xc at h
 simp only[List.mem_cons,List.not_mem_nil,or_false] at h
 rcases h with rfl | rfl | rfl | rfl | rfl
 ·refine⟨fun d hd=>?_,?_⟩
  ·simp only[List.mem_cons,List.not_mem_nil,or_false] at hd
   rcases hd with rfl | rfl<;>trivial
  ·show ((decide ((0:Int)≤9)&&decide ((9:Int)<(R:Int)))&&_)=false
   rw[decide_eq_false (show¬(9:Int)<(R:Int) by omega)]
   rfl
 ·refine⟨fun d hd=>?_,?_⟩
  ·simp only[List.mem_cons,List.not_mem_nil,or_false] at hd
   rcases hd with rfl | rfl<;>trivial
  ·show (_&&(decide ((0:Int)≤ -1)&&_))=false
   rw[decide_eq_false (show¬(0:Int)≤ -1 by decide),Bool.false_and,Bool.and_false]
 ·refine⟨fun d hd=>?_,rfl⟩
  simp only[List.mem_cons,List.not_mem_nil,or_false] at hd
  rcases hd with rfl | rfl<;>trivial
 ·refine⟨fun d hd=>?_,rfl⟩
  simp only[List.mem_cons,List.not_mem_nil,or_false] at hd
  rcases hd with rfl | rfl<;>trivial
 ·refine⟨fun d hd=>?_,rfl⟩
  simp only[List.mem_cons,List.not_mem_nil,or_false] at hd
  rcases hd with rfl | rfl<;>trivial
def xg:List D:=[.str "g", .str "", .str "ab", .non, .int 1, .lst [.str "a"]]
theorem xh{d:D}(h:d∈xg):Plain d∧Plain2 d∧kT d=false∧gQ d=false:=by
 unfold xg at h
 simp only[List.mem_cons,List.not_mem_nil,or_false] at h
 rcases h with rfl | rfl | rfl | rfl | rfl | rfl
 ·exact⟨trivial,trivial,by decide+kernel,rfl⟩
 ·exact⟨trivial,trivial,by decide+kernel,rfl⟩
 ·exact⟨trivial,trivial,by decide+kernel,rfl⟩
 ·exact⟨trivial,trivial,rfl,rfl⟩
 ·exact⟨trivial,trivial,rfl,rfl⟩
 ·exact⟨trivial,trivial,rfl,rfl⟩
theorem p4(hg:Brd bd W):bT [brd bd]=M.ret (.bl true):=by
 have r8:=hg.r8
 have o0:On bd.length W (0,0):=⟨hg.r1,hg.w1⟩
 refine bu (aq (ρ':=[fz (brd bd),none]) (er (gO (ds:=xc.map fun p=> .tup [p.1,p.2]) rfl (gu (fun p:D×D=> .tup [p.1,p.2]) _ xc fun p hp=>?_))) (aq (ρ':=[fz (brd bd),none]) ?_ (aH ?_)))
 ·obtain⟨h1,h2⟩:=xf (W:=W) r8 hp
  have nc:=nN hg h1 h2
  have c1:cq [brd bd,p.1,p.2, .int 0, .int 0]=M.raise 2:=bP (aq (bx ((ah (ds:=[brd bd]) rfl rfl).trans hg.nb)) (c6 (dq ((ah (ds:=[brd bd, .tup [p.1,p.2]]) rfl rfl).trans nc))))
  have c2:cq [brd bd, .int 0, .int 0,p.1,p.2]=M.raise 2:=bP (aq (bx ((ah (ds:=[brd bd]) rfl rfl).trans hg.nb)) (aq (bx ((ah (ds:=[brd bd,cD (0,0)]) rfl rfl).trans (hg.nc o0))) (c6 (dq ((ah (ds:=[brd bd, .tup [p.1,p.2]]) rfl rfl).trans nc)))))
  have t1:ai [.int 0,brd bd, .tup [p.1,p.2], .tup [.int 0, .int 0]]=M.ret (c_ 1):=sW.trans (by rw[c1];rfl)
  have t2:ai [.int 0,brd bd, .tup [.int 0, .int 0], .tup [p.1,p.2]]=M.ret (c_ 1):=sW.trans (by rw[c2];rfl)
  refine⟨[fz (brd bd),fz (.tup [p.1,p.2])],rfl,(cC (ρ':=[fz (brd bd),fz (.tup [p.1,p.2])]) (aq (cI (g9 ((aS (y:=c_ 1) ((ah (ds:=[.int 0,brd bd, .tup [p.1,p.2], .tup [.int 0, .int 0]]) rfl rfl).trans t1) rfl).trans (gT 1))) rfl) (cI (g9 ((aS (y:=c_ 1) ((ah (ds:=[.int 0,brd bd, .tup [.int 0, .int 0], .tup [p.1,p.2]]) rfl rfl).trans t2) rfl).trans (gT 1))) rfl))).trans rfl⟩
 ·show noex (eE _ _ _ [fz (brd bd),none])=_
  refine er (τ:=eE _ _ _) (gO (ds:=xg.map id) rfl (gu id _ xg fun p hp=>?_))
  obtain⟨h1,h2,h3,h4⟩:=xh hp
  have nl:=BP h1 h3
  have nb:=gJ h2 h4
  have ra:oP ⟨#[97]⟩=true:=by decide+kernel
  have t1:ai [.int 4,brd bd,p, .non]=M.ret (c_ 2):=sX.trans (by
   rw[show cU [brd bd,p, .non]=M.raise 3 from bP (aq (bx ((ah (ds:=[brd bd]) rfl rfl).trans hg.nb)) (c6 (dq ((ah (ds:=[p]) rfl rfl).trans nl))))]
   rfl)
  have t2:ai [.int 4,brd bd, .str "a",p]=M.ret (c_ 2):=sX.trans (by
   rw[show cU [brd bd, .str "a",p]=M.raise 3 from bP (aq (bx ((ah (ds:=[brd bd]) rfl rfl).trans hg.nb)) (aq (bx ((ah (ds:=[sg 97]) rfl rfl).trans (qX ra))) (c6 (dq ((ah (ds:=[p]) rfl rfl).trans nl)))))]
   rfl)
  have t3:ai [.int 1,brd bd,p, .non]=M.ret (c_ 0):=wV.trans (by
   rw[show cQ [brd bd,p]=M.raise 0 from bP (aq (bx ((ah (ds:=[brd bd]) rfl rfl).trans hg.nb)) (c6 (dq ((ah (ds:=[p]) rfl rfl).trans nb))))]
   rfl)
  have t4:ai [.int 3,brd bd,p, .non]=M.ret (c_ 0):=wW.trans (by
   rw[show cP [brd bd,p]=M.raise 0 from bP (sU (by
    show (av 1 aF (aC (dV 0) aN) [fz (brd bd),fz p]>>=fun x=>av 1 aF (aC (dV 1) aN) [fz (brd bd),fz p]>>=fun y=>jw x y)=_
    rw[(ah (ds:=[brd bd]) rfl rfl:av 1 aF (aC (dV 0) aN) [fz (brd bd),fz p]=_),c5 hg,ao,(ah (ds:=[p]) rfl rfl:av 1 aF (aC (dV 1) aN) [fz (brd bd),fz p]=_),show aF [p]=M.raise 0 from bP (c6 (dq ((ah (ds:=[p]) rfl rfl).trans nb)))]
    rfl))]
   rfl)
  refine⟨[fz (brd bd),fz p],rfl,(cC (ρ':=[fz (brd bd),fz p]) (aq (cI (g9 ((aS (y:=c_ 2) ((ah (ds:=[.int 4,brd bd,p, .non]) rfl rfl).trans t1) rfl).trans (gT 2))) rfl) (aq (cI (g9 ((aS (y:=c_ 2) ((ah (ds:=[.int 4,brd bd, .str "a",p]) rfl rfl).trans t2) rfl).trans (gT 2))) rfl) (aq (cI (g9 ((aS (y:=c_ 0) ((ah (ds:=[.int 1,brd bd,p, .non]) rfl rfl).trans t3) rfl).trans (gT 0))) rfl) (cI (g9 ((aS (y:=c_ 0) ((ah (ds:=[.int 3,brd bd,p, .non]) rfl rfl).trans t4) rfl).trans (gT 0))) rfl))))).trans rfl⟩
 ·have nb:aO [.tup [.str "ab", .str "a"]]=M.raise 0:=gJ (fun d hd=>by
   simp only[List.mem_cons,List.not_mem_nil,or_false] at hd
   rcases hd with rfl | rfl<;>trivial) (by decide+kernel)
  have nn:D.tup [.non, .non]=D.tup [.non, .non]:=rfl
  have t:∀k:Nat,k<5→ai [.int (k:Int), .tup [.str "ab", .str "a"], .tup [.non, .non], .tup [.non, .non]]=M.ret (c_ 0):=fun k hk=>by
   have e0:cq [.tup [.str "ab", .str "a"], .non, .non, .non, .non]=M.raise 0:=bP (c6 (dq ((ah (ds:=[.tup [.str "ab", .str "a"]]) rfl rfl).trans nb)))
   have e1:cQ [.tup [.str "ab", .str "a"], .tup [.non, .non]]=M.raise 0:=bP (c6 (dq ((ah (ds:=[.tup [.str "ab", .str "a"]]) rfl rfl).trans nb)))
   have e2:aF [.tup [.str "ab", .str "a"]]=M.raise 0:=bP (c6 (dq ((ah (ds:=[.tup [.str "ab", .str "a"]]) rfl rfl).trans nb)))
   have e3:cP [.tup [.str "ab", .str "a"], .tup [.non, .non]]=M.raise 0:=bP (sU (by
    show (av 1 aF (aC (dV 0) aN) [fz (.tup [.str "ab", .str "a"]),fz (.tup [.non, .non])]>>=fun x=>av 1 aF (aC (dV 1) aN) [fz (.tup [.str "ab", .str "a"]),fz (.tup [.non, .non])]>>=fun y=>jw x y)=_
    rw[(ah (ds:=[.tup [.str "ab", .str "a"]]) rfl rfl:av 1 aF (aC (dV 0) aN) [fz (.tup [.str "ab", .str "a"]),fz (.tup [.non, .non])]=_),e2]
    rfl))
   have e4:cU [.tup [.str "ab", .str "a"], .tup [.non, .non], .tup [.non, .non]]=M.raise 0:=bP (c6 (dq ((ah (ds:=[.tup [.str "ab", .str "a"]]) rfl rfl).trans nb)))
   match k,hk with
   |0,_=>exact sW.trans (by rw[e0];rfl)
   |1,_=>exact wV.trans (by rw[e1];rfl)
   |2,_=>exact y7.trans (by rw[e2];rfl)
   |3,_=>exact wW.trans (by rw[e3];rfl)
   |4,_=>exact sX.trans (by rw[e4];rfl)
  have cm:aT 0 (fun ρ=>(aC (dC (.int 5)) aN) ρ>>=d9) ba (av 4 ai (aC (dV 0) (aC (dA aU (aC (dC (.str "ab")) (aC (dC (.str "a")) aN))) (aC (dA aU (aC (dC .non) (aC (dC .non) aN))) (aC (dA aU (aC (dC .non) (aC (dC .non) aN))) aN))))) [fz (brd bd),none]=M.ret (.lst ((List.range 5).map fun _=>c_ 0)):=
   bQ (wz (n:=5) rfl (by decide)) (e9 (fun (k:Nat)=>D.int (k:Int)) (fun _=>c_ 0) _ fun k hk=>by
    rw[fI,(ah (ds:=[.int (k:Int), .tup [.str "ab", .str "a"], .tup [.non, .non], .tup [.non, .non]]) rfl rfl:av 4 ai _ _=_),t k (List.mem_range.mp hk)]
    rfl) (by decide)
  exact(aS cm (y:= .lst [c_ 0,c_ 0,c_ 0,c_ 0,c_ 0]) rfl).trans rfl
end
theorem fT{δ:DE}{ρ:aY}{i:Int}(h:δ ρ=M.ret (.int i)):oS δ ρ=M.ret (some i):=by
 unfold oS
 rw[h]
 rfl
theorem kF{α β:Type}(e:α→β)(p:α→Bool):∀l:List α,(l.flatMap fun x=>if p x then [e x] else [])=(l.filter p).map e
 |[]=>rfl
 |x::l=>by
  rw[List.flatMap_cons,kF e p l,List.filter_cons]
  cases p x<;>rfl
section
variable{bd:List Str}{W:Nat}
abbrev sO(s b x y g pt:D)(a6 a7 a8 a9:Option Sl):aY:=[fz s,fz b,fz x,fz y,fz g,fz pt,a6,a7,a8,a9,none,none,none]
def BK:DS:=(dQ [8,9] (eZ (da (d2 jw (dA gi (aC (aT 0 (dH (nr (dV 1) (oS (dV 8)) (oS (d2 cw (dV 8) (dA br (aC (dV 6) aN)))))) ba (nr (dV 0) (oS (dV 10)) (oS (d2 cw (dV 10) (dA br (aC (d2 bp (dV 7) (dC (.int 0))) aN)))))) aN)) (dV 6))) (oj 7 (dA aU (aC (dV 8) (aC (dV 9) aN)))) cn))
def A_:DS:=(dQ [6,7,8,9] (aI (uu 7) (aI (eE (p0 [8,9]) (xn (av 1 bW (aC (dV 1) aN))) BK) (eZ (A2 (da (d2 jx (av 4 ai (aC (dC (.int 1)) (aC (dV 1) (aC (dV 6) (aC (dC .non) aN))))) (dV 7)))) (a_ (dC (.bl false))) cn))))
theorem uM(hg:Brd bd W){pt:List Str}{V:Nat}(hp:Brd pt V)(s x y g q:D):A_ (sO s (brd bd) x y g q (fz (brd pt)) none none none)=M.ret (.nx (sO s (brd bd) x y g q none none none none)):=by
 have hl:((bL bd.length W).filter (d7 bd pt V)).length≤64:=Nat.le_trans (List.length_filter_le ..) (by rw[fe];exact Nat.mul_le_mul hg.r8 hg.w8)
 have lp:=fK (put:=p0 [8,9]) (body:=BK) cD (fun acc=>sO s (brd bd) x y g q (fz (brd pt)) (some (.ow (.lst acc))) none none) (fun c=>if d7 bd pt V c then [cD c] else []) (B:=100) (bL bd.length W) [] (by
  rw[List.nil_append,kF,List.length_map]
  omega) fun c hc acc ha=>by
  refine⟨sO s (brd bd) x y g q (fz (brd pt)) (some (.ow (.lst acc))) (fz (.int (c.1:Int))) (fz (.int (c.2:Int))),rfl,?_⟩
  have yB:da (d2 jw (dA gi (aC (aT 0 (dH (nr (dV 1) (oS (dV 8)) (oS (d2 cw (dV 8) (dA br (aC (dV 6) aN)))))) ba (nr (dV 0) (oS (dV 10)) (oS (d2 cw (dV 10) (dA br (aC (d2 bp (dV 7) (dC (.int 0))) aN)))))) aN)) (dV 6)) (sO s (brd bd) x y g q (fz (brd pt)) (some (.ow (.lst acc))) (fz (.int (c.1:Int))) (fz (.int (c.2:Int))))=M.ret (d7 bd pt V c):=
   g9 ((aS (x:=brd (dE bd (c.1:Int) ((c.1:Int)+(pt.length:Int)) (c.2:Int) ((c.2:Int)+(V:Int)))) (y:=brd pt) (lh hg (i:=1) rfl (fT rfl) (fT ((aS rfl (vv (i:=6) rfl)).trans rfl)) (fun _=>fT rfl) (fun _=>fT ((aS rfl (hp.len0 (i:=7) rfl)).trans rfl))) rfl).trans (nu fb (by decide) _ _))
  cases h:d7 bd pt V c with
  |true=>
   rw[h] at yB
   rw[if_pos rfl]
   rw[h,if_pos rfl,List.length_append] at ha
   refine(cC (ρ':=sO s (brd bd) x y g q (fz (brd pt)) (some (.ow (.lst (acc++[cD c])))) (fz (.int (c.1:Int))) (fz (.int (c.2:Int)))) (dF yB ?_)).trans rfl
   show (M.ret (cD c)>>=fun d=>if acc.length<lim then M.ret (Out.nx _) else M.stuck)=_
   rw[ao,if_pos (by rw[dI];simp at ha;omega)]
   rfl
  |false=>
   rw[h] at yB
   rw[if_neg (by decide),List.append_nil]
   exact(cC (cI yB rfl)).trans rfl
 rw[List.nil_append,kF] at lp
 refine(cC (ρ':=sO s (brd bd) x y g q (fz (brd pt)) (some (.ow (.lst (((bL bd.length W).filter (d7 bd pt V)).map cD)))) none none) (aq (ρ':=sO s (brd bd) x y g q (fz (brd pt)) (some (.ow (.lst []))) none none) rfl (aq (gO (ds:=(bL bd.length W).map cD) ?_ lp) (cI ?_ rfl)))).trans rfl
 ·show (av 1 bW (aC (dV 1) aN) _>>=lstM)=_
  rw[(ah (ds:=[brd bd]) rfl rfl:av 1 bW (aC (dV 1) aN) _=_),lT hg]
  rfl
 ·have e:da (d2 jx (av 4 ai (aC (dC (.int 1)) (aC (dV 1) (aC (dV 6) (aC (dC .non) aN))))) (dV 7)) (sO s (brd bd) x y g q (fz (brd pt)) (fz (cL ((bL bd.length W).filter (d7 bd pt V)))) none none)=M.ret false:=
   g9 ((aS (x:=cL ((bL bd.length W).filter (d7 bd pt V))) (y:=cL ((bL bd.length W).filter (d7 bd pt V))) ((ah (ds:=[.int 1,brd bd,brd pt, .non]) rfl rfl).trans (wV.trans (by rw[tJ hg hp];rfl))) rfl).trans ((BO _ _).trans (by rw[decide_eq_true rfl];rfl)))
  show noex (da _ (sO s (brd bd) x y g q (fz (brd pt)) (fz (cL ((bL bd.length W).filter (d7 bd pt V)))) none none))=_
  rw[e]
  rfl
end
theorem C9:∀c∈("abcf":Str).cps.toList,oP ⟨#[c]⟩=true:=by decide+kernel
theorem vq(ns:List Int)(hl:ns.length≤63):gq [.scr ns]=M.ret (.bl true):=by
 obtain⟨bd,W,hG,eb⟩:=iU ns hl 0 5 (by decide) (by decide)
 obtain⟨b3,V3,FY,FL⟩:=iU ns hl 70 3 (by decide) (by decide)
 obtain⟨b2,V2,E2,FK⟩:=iU ns hl 100 3 (by decide) (by decide)
 have hg:=hG.brd
 obtain⟨x,hx,ex⟩:=js ns hl hg 60
 obtain⟨y,hy,ey⟩:=js ns hl hg 62
 obtain⟨i1,Hl,FN⟩:=cT ns hl 130 3 (by decide)
 obtain⟨i2,Hm,FO⟩:=cT ns hl 131 4 (by decide)
 obtain⟨p,hp,_,ep⟩:=kH (x:="abc") (i:=i1) (by have:("abc":Str).length=3:=rfl;omega)
 obtain⟨q,hq,_,eq⟩:=kH (x:="abcf") (i:=i2) (by have:("abcf":Str).length=4:=rfl;omega)
 have hp:=uL.2.1.ok p hp
 have hq:=C9 q hq
 obtain⟨dd,FG,AO,FH⟩:=sf p q
 have EG:ai [.int 0,brd bd,cD x,cD y]=rM (cq [brd bd, .int (x.1:Int), .int (x.2:Int), .int (y.1:Int), .int (y.2:Int)]):=sW
 rw[xl hg hx hy] at EG
 have Fc:i_ x y=true→Good (dE bd (x.1:Int) ((y.1:Int)+1) (x.2:Int) ((y.2:Int)+1)) (y.2+1 - x.2):=fun h=>by
  unfold i_ at h
  simp only[Bool.and_eq_true,decide_eq_true_eq] at h
  exact uh hG hx hy (by omega) (by omega)
 generalize hP:dE bd (x.1:Int) ((y.1:Int)+1) (x.2:Int) ((y.2:Int)+1)=P at EG Fc
 refine bu ?_
 refine aq (ρ':=[fz (.scr ns),fz (brd bd),none,none,none,none,none,none,none,none,none,none,none]) ((bc ((ah (ds:=[.scr ns, .int 0, .int 5]) rfl rfl).trans eb)).trans rfl) ?_
 refine aq (ρ':=[fz (.scr ns),fz (brd bd),fz (cD x),none,none,none,none,none,none,none,none,none,none]) ((bc ((ah (ds:=[.scr ns, .int 60,brd bd]) rfl rfl).trans ex)).trans rfl) ?_
 refine aq (ρ':=[fz (.scr ns),fz (brd bd),fz (cD x),fz (cD y),none,none,none,none,none,none,none,none,none]) ((bc ((ah (ds:=[.scr ns, .int 62,brd bd]) rfl rfl).trans ey)).trans rfl) ?_
 refine aq (ρ':=[fz (.scr ns),fz (brd bd),fz (cD x),fz (cD y),fz (.bl (i_ x y)),none,none,none,none,none,none,none,none]) ((bc (d:= .bl (i_ x y)) (xm rfl rfl)).trans rfl) ?_
 refine aq (ρ':=sO (.scr ns) (brd bd) (cD x) (cD y) (.bl (i_ x y)) (brd P) none none none none) ((bc (d:=brd P) (by
  rw[←hP]
  exact lh hg (i:=1) rfl (fT rfl) (fT rfl) (fun _=>fT rfl) (fun _=>fT rfl))).trans rfl) ?_
 refine aq (ρ':=sO (.scr ns) (brd bd) (cD x) (cD y) (.bl (i_ x y)) (brd P) none none none none) (cI (g9 ((aS (x:=if i_ x y then brd P else c_ 1) (y:=if i_ x y then brd P else c_ 1) ((ah (ds:=[.int 0,brd bd,cD x,cD y]) rfl rfl).trans (EG.trans ?_)) ((yG (e_ rfl)).trans ?_)).trans ?_)) rfl) ?_
 ·cases i_ x y<;>rfl
 ·cases i_ x y<;>rfl
 ·cases i_ x y with
  |true=>exact(nv fb (by decide) P P).trans (by rw[decide_eq_true rfl];rfl)
  |false=>exact gT 1
 obtain⟨P1,V1,Gh,F0⟩:∃P1 V1,Brd P1 V1∧(if i_ x y then brd P else brd bd)=brd P1:=by
  cases h:i_ x y with
  |true=>exact⟨P,_,(Fc h).brd,rfl⟩
  |false=>exact⟨bd,W,hg,rfl⟩
 refine aq (ρ':=sO (.scr ns) (brd bd) (cD x) (cD y) (.bl (i_ x y)) (brd P) none none none none) (er (gO (ds:=[(P1,V1),(b3,V3)].map fun z:List Str×Nat=>brd z.1) ?_ (gu (body:=A_) (fun z:List Str×Nat=>brd z.1) _ [(P1,V1),(b3,V3)] fun z hz=>?_))) ?_
 ·have e:dA aU (aC (yF (bR (dV 4)) (dV 5) (dV 1)) (aC (av 3 bq (aC (dV 0) (aC (dC (.int 70)) (aC (dC (.int 3)) aN)))) aN)) (sO (.scr ns) (brd bd) (cD x) (cD y) (.bl (i_ x y)) (brd P) none none none none)=M.ret (.tup [brd P1,brd b3]):=by
   refine(dz (xs:=[brd P1,brd b3]) (bA ((yG (e_ rfl)).trans ?_) (bA ((ah (ds:=[.scr ns, .int 70, .int 3]) rfl rfl).trans FL) rfl))).trans rfl
   rw[←F0]
   cases i_ x y<;>rfl
  unfold dH
  rw[e]
  rfl
 ·have hz:Brd z.1 z.2:=by
   simp only[List.mem_cons,List.not_mem_nil,or_false] at hz
   rcases hz with rfl | rfl
   ·exact Gh
   ·exact FY.brd
  exact⟨_,rfl,uM hg hz ..⟩
 refine aq (ρ':=[fz (.scr ns),fz (brd bd),fz (cD x),fz (cD y),fz (.bl (i_ x y)),fz (brd P),none,none,none,none,fz (brd b2),none,none]) ((bc ((ah (ds:=[.scr ns, .int 100, .int 3]) rfl rfl).trans FK)).trans rfl) ?_
 refine aq (cI (g9 ((aS ((ah (ds:=[.int 2,brd bd, .non, .non]) rfl rfl).trans (y7.trans (by rw[c5 hg];rfl))) ((ah (ds:=[brd bd]) rfl rfl).trans (cR hg))).trans ((nv fb (by decide) _ _).trans (by rw[decide_eq_true rfl];rfl)))) rfl) ?_
 refine aq (cI (g9 ((aS ((ah (ds:=[.int 3,brd bd,brd b2, .non]) rfl rfl).trans (wW.trans (by rw[ng hg E2.brd];rfl))) ((aS ((ah (ds:=[brd bd]) rfl rfl).trans (cR hg)) ((ah (ds:=[brd b2]) rfl rfl).trans (cR E2.brd))).trans (nu fb (by decide) _ _))).trans ((BN _ _).trans (by rw[beq_self_eq_true];rfl)))) rfl) ?_
 refine aq (ρ':=[fz (.scr ns),fz (brd bd),fz (cD x),fz (cD y),fz (.bl (i_ x y)),fz (brd P),none,none,none,none,fz (brd b2),fz (.lst [sg p,sg q]),none]) ((bc (d:= .lst [sg p,sg q]) ((dz (xs:=[sg p,sg q]) (bA ((aS (x:= .str "abc") rfl ((ah (ds:=[.scr ns, .int 130, .int 3]) rfl rfl).trans FN)).trans ep) (bA ((aS (x:= .str "abcf") rfl ((ah (ds:=[.scr ns, .int 131, .int 4]) rfl rfl).trans FO)).trans eq) rfl))).trans rfl)).trans rfl) ?_
 refine aq (ρ':=[fz (.scr ns),fz (brd bd),fz (cD x),fz (cD y),fz (.bl (i_ x y)),fz (brd P),none,none,none,none,fz (brd b2),fz (.lst [sg p,sg q]),fz dd]) ((bc (d:=dd) (FH rfl rfl rfl rfl)).trans rfl) ?_
 refine aq (ρ':=[fz (.scr ns),fz (brd bd),fz (cD x),fz (cD y),fz (.bl (i_ x y)),fz (brd P),none,fz (brd (bd.map (mapR (sk p q)))),none,none,fz (brd b2),fz (.lst [sg p,sg q]),fz dd]) ((bc (d:=brd (bd.map (mapR (sk p q)))) ((dz (xs:=[.lst ((bd.map (mapR (sk p q))).map D.str)]) (bA (bQ (D6 (i:=1) rfl) (ys:=(bd.map (mapR (sk p q))).map D.str) ?_ (by rw[List.length_map,List.length_map,dI];have:=hg.r8;omega)) rfl)).trans rfl)).trans rfl) ?_
 ·rw[List.map_map]
  refine e9 D.str _ _ fun r hr=>?_
  rw[fI,kO (i:=0) (r:=r) (g:=sk p q) rfl (by rw[(hg.rows r hr).len];have:=hg.w8;omega) fun c hc=>sm (i:=14) FG (AO c) rfl rfl]
  rfl
 refine aq (ρ':=[fz (.scr ns),fz (brd bd),fz (cD x),fz (cD y),fz (.bl (i_ x y)),fz (brd P),none,fz (brd (bd.map (mapR (sk p q)))),none,none,fz (brd b2),fz (.lst [sg p,sg q]),fz dd]) (cI ?_ rfl) ?_
 ·have e:da (d2 jx (av 4 ai (aC (dC (.int 4)) (aC (dV 1) (aC (d2 i4 (dV 11) (dC (.int 0))) (aC (d2 i4 (dV 11) (dC (.int 1))) aN))))) (dV 7)) [fz (.scr ns),fz (brd bd),fz (cD x),fz (cD y),fz (.bl (i_ x y)),fz (brd P),none,fz (brd (bd.map (mapR (sk p q)))),none,none,fz (brd b2),fz (.lst [sg p,sg q]),fz dd]=M.ret false:=
   g9 ((aS (x:=brd (bd.map (mapR (sk p q)))) (y:=brd (bd.map (mapR (sk p q)))) ((ah (ds:=[.int 4,brd bd,sg p,sg q]) rfl rfl).trans (sX.trans (by rw[qf hg hp hq];rfl))) rfl).trans ((nv fb (by decide) _ _).trans (by rw[decide_eq_true rfl];rfl)))
  show noex (da _ [fz (.scr ns),fz (brd bd),fz (cD x),fz (cD y),fz (.bl (i_ x y)),fz (brd P),none,fz (brd (bd.map (mapR (sk p q)))),none,none,fz (brd b2),fz (.lst [sg p,sg q]),fz dd])=_
  rw[e]
  rfl
 exact aH ((ah (ds:=[brd bd]) rfl rfl).trans (p4 hg))
end K1
namespace K1
open PySem PySem.Spec L2 L3
open PyProof.Rows hiding St
def BL(c0 c2 c3:Addr):Nat→Addr
 |0=>c0
 |2=>c2
 |_=>c3
def DF(K:W.Frag)(x:Str)(s:Stmt):Prop:=∃(f:Addr) (oc:Value) (od an:Option Addr) (sl:Array (Option Value)) (kV dc pm cd ct:Value),PySem.W.nsIn K mainGlobals x=some (some (.ref f))∧K.lookup f=some ⟨oc,od, .func (PySem.W.fnOf x x (dm s) (aK s) (ag s) .none kV dc pm an cd ct),sl⟩∧PySem.W.codeIn K cd x=true∧PySem.W.keepIn K (.ref f)=true
theorem DF.mk{K:W.Frag}{x:Str}{s:Stmt}{f:Addr}{oc:Value}{od an:Option Addr}{sl:Array (Option Value)}{kV dc pm cd ct:Value}(a:PySem.W.nsIn K mainGlobals x=some (some (.ref f)))(l:K.lookup f=some ⟨oc,od, .func (PySem.W.fnOf x x (dm s) (aK s) (ag s) .none kV dc pm an cd ct),sl⟩)(c:PySem.W.codeIn K cd x=true)(k:PySem.W.keepIn K (.ref f)=true):DF K x s:=⟨f,oc,od,an,sl,kV,dc,pm,cd,ct,a,l,c,k⟩
theorem DF.at{K:W.Frag}{x:Str}{s:Stmt}{h:Heap}{mg:Str→Option Value}(X:K.In h)(G:h.Ns mainGlobals mg)(d:DF K x s):∃f,bD K mg x s f:=by
 obtain⟨f,oc,od,an,sl,kV,dc,pm,cd,ct,a,l,c,k⟩:=d
 exact⟨f,PySem.W.mg_of X G a,_,u_ (st:=s) l c k⟩
theorem all_mk{P:Program}{w:World}{K:W.Frag}{h:Heap}{mg:Str→Option Value}{fa:Addr}(X:K.In h)(G:h.Ns mainGlobals mg)(Gf:mg "law"=some (.ref fa))
 {gU:Addr}{ri km:Option Addr}{rK:Array (Option Value)}{rh kR kD lu gR kA:Value}
 {uy:Tok}
 {qg:Tok}
 {lH:Tok}
 {C0 C2 C3 Cp:Addr}{r0:ClassData}{r2:ClassData}{r3:ClassData}
 (d_is_whole:DF K "is_whole" g6)
 (d_is_letter:DF K "is_letter" gc)
 (d_cells_of_row:DF K "cells_of_row" c7)
 (d_part_between:DF K "part_between" c8)
 (d_with_names:DF K "with_names" dR)
 (d_law_cell:DF K "_law_cell" g7)
 (d_law_cells:DF K "_law_cells" ez)
 (d_law_refused_v4:DF K "_law_refused" dj)
 (d_law_relettered:DF K "_law_relettered" cF)
 (d_is_row:DF K "is_row" iH)
 (d_is_cell:DF K "is_cell" ji)
 (d_need_letter:DF K "need_letter" eG)
 (d_all_cells:DF K "all_cells" gb)
 (d_lies_at:DF K "lies_at" jj)
 (d_law_drawn:DF K "_law_drawn" gf)
 (d_is_board:DF K "is_board" d_)
 (d_need_cell:DF K "need_cell" gg)
 (d_law_board:DF K "_law_board" eu)
 (d_law_cell_in:DF K "_law_cell_in" eF)
 (d_need_board:DF K "need_board" fm)
 (d_cut_out:DF K "cut_out" jh)
 (d_found_in:DF K "found_in" fk)
 (d_relettered:DF K "relettered" fo)
 (d_swapped:DF K "swapped" jk)
 (d_are_like:DF K "are_like" g5)
 (d_law_told_v13:DF K "_law_told" ef)
 (d_law_refuses_v4:DF K "_law_refuses" cE)
 (a_law_k76:PySem.W.nsIn K mainGlobals "law"=some (some (.ref gU)))(l_law_k76:K.lookup gU=some ⟨rh,ri, .func (PySem.W.fnOf "law" "law" (dm ak) (aK ak) (ag ak) .none kR kD lu km gR kA),rK⟩)(c_law_k76:PySem.W.codeIn K gR "law"=true)(k_law_k76:PySem.W.keepIn K (.ref gU)=true)
 (z_len:PySem.W.nsIn K mainGlobals "len"=some none)
 (z_isinstance:PySem.W.nsIn K mainGlobals "isinstance"=some none)
 (z_all:PySem.W.nsIn K mainGlobals "all"=some none)
 (z_range:PySem.W.nsIn K mainGlobals "range"=some none)
 (z_str:PySem.W.nsIn K mainGlobals "str"=some none)
 (z_int:PySem.W.nsIn K mainGlobals "int"=some none)
 (z_bool:PySem.W.nsIn K mainGlobals "bool"=some none)
 (z_tuple:PySem.W.nsIn K mainGlobals "tuple"=some none)
 (z_ValueError:PySem.W.nsIn K mainGlobals "ValueError"=some none)
 (y_LETTERS:PySem.W.nsIn K mainGlobals "LETTERS"=some (some (.str "abcdef" uy)))
 (y_MOST_ROWS:PySem.W.nsIn K mainGlobals "MOST_ROWS"=some (some (.int 8 qg)))
 (y_MOST_COLUMNS:PySem.W.nsIn K mainGlobals "MOST_COLUMNS"=some (some (.int 8 lH)))
 (e0:PySem.W.nsIn K mainGlobals "NoBoard"=some (some (.ref C0)))
 (e2:PySem.W.nsIn K mainGlobals "NoCell"=some (some (.ref C2)))
 (e3:PySem.W.nsIn K mainGlobals "NoLetter"=some (some (.ref C3)))
 (ep:PySem.W.nsIn K mainGlobals "PatchError"=some (some (.ref Cp)))
 (sp:PySem.W.subIn K (.ref Cp) (.type "BaseException")=some true)
 (q0:PySem.W.excIn K C0 [.type "ValueError", .type "Exception", .type "BaseException", .type "object"] "ValueError.__new__"=true)
 (ga0:PySem.W.findIn K (.ref C0) "__getattribute__"=some (some (.builtin "BaseException.__getattribute__")))(gt0:PySem.W.findIn K (.ref C0) "__getattr__"=some none)(ca0:PySem.W.findIn K (.ref C0) "__class__"=some (some (.builtin "object.__class__")))(mo0:PySem.W.mroIn K C0 (.type "object")=some true)(mb0:PySem.W.mroIn K C0 (.type "BaseException")=some true)(cl0:PySem.W.clsIn K C0=some r0)
 (kp0:PySem.W.kitOne K (.ref C0) (.ref Cp)=some true)(kv0:PySem.W.kitOne K (.ref C0) (.type "ValueError")=some true)(np0:((Value.ref C0)==(Value.ref Cp))=false)
 (k00:PySem.W.kitOne K (.ref C0) (.ref C0)=some true)
 (k02:PySem.W.kitOne K (.ref C0) (.ref C2)=some false)
 (k03:PySem.W.kitOne K (.ref C0) (.ref C3)=some false)
 (q2:PySem.W.excIn K C2 [.type "ValueError", .type "Exception", .type "BaseException", .type "object"] "ValueError.__new__"=true)
 (ga2:PySem.W.findIn K (.ref C2) "__getattribute__"=some (some (.builtin "BaseException.__getattribute__")))(gt2:PySem.W.findIn K (.ref C2) "__getattr__"=some none)(ca2:PySem.W.findIn K (.ref C2) "__class__"=some (some (.builtin "object.__class__")))(mo2:PySem.W.mroIn K C2 (.type "object")=some true)(mb2:PySem.W.mroIn K C2 (.type "BaseException")=some true)(cl2:PySem.W.clsIn K C2=some r2)
 (kp2:PySem.W.kitOne K (.ref C2) (.ref Cp)=some true)(kv2:PySem.W.kitOne K (.ref C2) (.type "ValueError")=some true)(np2:((Value.ref C2)==(Value.ref Cp))=false)
 (k20:PySem.W.kitOne K (.ref C2) (.ref C0)=some false)
 (k22:PySem.W.kitOne K (.ref C2) (.ref C2)=some true)
 (k23:PySem.W.kitOne K (.ref C2) (.ref C3)=some false)
 (q3:PySem.W.excIn K C3 [.type "ValueError", .type "Exception", .type "BaseException", .type "object"] "ValueError.__new__"=true)
 (ga3:PySem.W.findIn K (.ref C3) "__getattribute__"=some (some (.builtin "BaseException.__getattribute__")))(gt3:PySem.W.findIn K (.ref C3) "__getattr__"=some none)(ca3:PySem.W.findIn K (.ref C3) "__class__"=some (some (.builtin "object.__class__")))(mo3:PySem.W.mroIn K C3 (.type "object")=some true)(mb3:PySem.W.mroIn K C3 (.type "BaseException")=some true)(cl3:PySem.W.clsIn K C3=some r3)
 (kp3:PySem.W.kitOne K (.ref C3) (.ref Cp)=some true)(kv3:PySem.W.kitOne K (.ref C3) (.type "ValueError")=some true)(np3:((Value.ref C3)==(Value.ref Cp))=false)
 (k30:PySem.W.kitOne K (.ref C3) (.ref C0)=some false)
 (k32:PySem.W.kitOne K (.ref C3) (.ref C2)=some false)
 (k33:PySem.W.kitOne K (.ref C3) (.ref C3)=some true):
 ∃(cv:Nat→Value) (fd:FuncData),(∀(s:Shared) (u:Value),BindsTo s fd ⟨[u],[]⟩ [("_law_script",u)])∧∀base:Heap,K.In base→base.Ns mainGlobals mg→FnOk P w K mg base (b6 P w cv) 9 fa fd ["_law_script"] (xa K cv 1 gq):=by
 have ea:=Gf.symm.trans (PySem.W.mg_of X G a_law_k76)
 cases ea
 refine⟨fun n=> .ref (cB (BL C0 C2 C3) n),PySem.W.fnOf "law" "law" (dm ak) (aK ak) (ag ak) .none kR kD lu km gR kA,fun s v=> .of_eq rfl,fun base KB GB=>?_⟩
 have B:Bl K mg base (fun n=> .ref (cB (BL C0 C2 C3) n)) (BL C0 C2 C3) Cp:=by
  refine⟨PySem.W.mg_none_of X G z_len,PySem.W.mg_none_of X G z_isinstance,PySem.W.mg_none_of X G z_all,PySem.W.mg_none_of X G z_range,PySem.W.mg_none_of X G z_str,PySem.W.mg_none_of X G z_int,PySem.W.mg_none_of X G z_bool,PySem.W.mg_none_of X G z_tuple,PySem.W.mg_none_of X G z_ValueError,⟨_,PySem.W.mg_of X G y_LETTERS⟩,⟨_,PySem.W.mg_of X G y_MOST_ROWS⟩,⟨_,PySem.W.mg_of X G y_MOST_COLUMNS⟩,PySem.W.mg_of X G e0,PySem.W.mg_of X G e2,PySem.W.mg_of X G e3,rq KB GB e0 q0,rq KB GB e2 q2,rq KB GB e3 q3,fun _=>rfl,PySem.W.mg_of X G ep,?exm,?exs,?kit,?kitV⟩
  case exm=>
   intro n
   have h:∀m,m∈[0,2,3]→PySem.W.exmOne K (.ref ((BL C0 C2 C3) m)) (.ref Cp)=some true:=by
    intro m hm
    simp only[List.mem_cons,List.not_mem_nil,or_false] at hm
    rcases hm with rfl | rfl | rfl
    ·exact qL sp kp0 np0
    ·exact qL sp kp2 np2
    ·exact qL sp kp3 np3
   exact h (AZ n) (sS n)
  case exs=>
   intro C hC
   simp only[rZ,BL,List.mem_cons,List.not_mem_nil,or_false] at hC
   rcases hC with e | e | e<;>subst e
   ·exact⟨ga0,gt0,ca0,mo0,mb0,by rw[cl0];rfl⟩
   ·exact⟨ga2,gt2,ca2,mo2,mb2,by rw[cl2];rfl⟩
   ·exact⟨ga3,gt3,ca3,mo3,mb3,by rw[cl3];rfl⟩
  case kit=>
   intro n m hn hm
   simp only[List.mem_cons,List.not_mem_nil,or_false] at hn hm
   rcases hn with rfl | rfl | rfl
   ·rcases hm with rfl | rfl | rfl
    ·exact k00
    ·exact k02
    ·exact k03
   ·rcases hm with rfl | rfl | rfl
    ·exact k20
    ·exact k22
    ·exact k23
   ·rcases hm with rfl | rfl | rfl
    ·exact k30
    ·exact k32
    ·exact k33
  case kitV=>
   intro n hn
   simp only[List.mem_cons,List.not_mem_nil,or_false] at hn
   rcases hn with rfl | rfl | rfl
   ·exact kv0
   ·exact kv2
   ·exact kv3
 have rb:=(DF.at X G d_is_whole).elim fun _ t=>pP (P:=P) (w:=w) B t
 have jG:=(DF.at X G d_is_letter).elim fun _ t=>nP (P:=P) (w:=w) B t
 have kZ:=(DF.at X G d_cells_of_row).elim fun _ t=>j3 (P:=P) (w:=w) B t
 have fW:=(DF.at X G d_part_between).elim fun _ t=>j5 (P:=P) (w:=w) B t
 have iy:=(DF.at X G d_with_names).elim fun _ t=>lY (P:=P) (w:=w) B t
 have rf:=(DF.at X G d_law_cell).elim fun _ t=>pQ (P:=P) (w:=w) B t
 have pJ:=(DF.at X G d_law_cells).elim fun _ t=>nR (P:=P) (w:=w) B t
 have i7:=(DF.at X G d_law_refused_v4).elim fun _ t=>iz (P:=P) (w:=w) B t
 have i9:=(DF.at X G d_law_relettered).elim fun _ t=>iB (P:=P) (w:=w) B t
 have vI:=(DF.at X G d_is_row).elim fun _ t=>ub (P:=P) (w:=w) B jG t
 have t8:=(DF.at X G d_is_cell).elim fun _ t=>rk (P:=P) (w:=w) B rb t
 have lV:=(DF.at X G d_need_letter).elim fun _ t=>k7 (P:=P) (w:=w) B jG t
 have pH:=(DF.at X G d_all_cells).elim fun _ t=>nO (P:=P) (w:=w) B kZ t
 have t9:=(DF.at X G d_lies_at).elim fun _ t=>rl (P:=P) (w:=w) B fW t
 have fU:=(DF.at X G d_law_drawn).elim fun _ t=>nS (P:=P) (w:=w) B rf t
 have q_:=(DF.at X G d_is_board).elim fun _ t=>pO (P:=P) (w:=w) B vI t
 have pK:=(DF.at X G d_need_cell).elim fun _ t=>nT (P:=P) (w:=w) B t8 t
 have pI:=(DF.at X G d_law_board).elim fun _ t=>nQ (P:=P) (w:=w) B fU t
 have lU:=(DF.at X G d_law_cell_in).elim fun _ t=>k6 (P:=P) (w:=w) B fU t
 have dN:=(DF.at X G d_need_board).elim fun _ t=>lW (P:=P) (w:=w) B q_ t
 have t7:=(DF.at X G d_cut_out).elim fun _ t=>rj (P:=P) (w:=w) B dN pK fW t
 have qZ:=(DF.at X G d_found_in).elim fun _ t=>pN (P:=P) (w:=w) B dN pH t9 t
 have ix:=(DF.at X G d_relettered).elim fun _ t=>lX (P:=P) (w:=w) B dN iy t
 have t_:=(DF.at X G d_swapped).elim fun _ t=>rm (P:=P) (w:=w) B dN lV iy t
 have qY:=(DF.at X G d_are_like).elim fun _ t=>pM (P:=P) (w:=w) B ix t
 have fV:=(DF.at X G d_law_told_v13).elim fun _ t=>j4 (P:=P) (w:=w) B t7 qY t_ i7 qZ ix t
 have i8:=(DF.at X G d_law_refuses_v4).elim fun _ t=>iA (P:=P) (w:=w) B fV t
 exact pL B pI lU i8 fV pJ i9 fU (u_ (st:=ak) l_law_k76 c_law_k76 k_law_k76)
end K1
open PySem PySem.W PyProof.Rows
set_option maxHeartbeats 0 in
theorem PySem.Challenge.cw_cellpatches_k76_parts_holds : PySem.Challenge.rw_cellpatches_k76_parts.Holds := by
 w_on;o_law;k_head;(case hw=>w_witness2)
 k_fill
 refine L3.Cu (l:=PySem.Challenge.rw_cellpatches_k76_parts) (k:=9) (n:=63) (x:="_law_script") (g:=K1.gq) rfl (by decide) rfl ⟨rfl,by decide,by decide⟩ (fun w h Y=>PySem.W.kIn_of Y) K1.vq ?F
 case F=>
  intro w mg fa h KX G zC
  refine' K1.all_mk KX G zC ?d_is_whole ?d_is_letter ?d_cells_of_row ?d_part_between ?d_with_names ?d_law_cell ?d_law_cells ?d_law_refused_v4 ?d_law_relettered ?d_is_row ?d_is_cell ?d_need_letter ?d_all_cells ?d_lies_at ?d_law_drawn ?d_is_board ?d_need_cell ?d_law_board ?d_law_cell_in ?d_need_board ?d_cut_out ?d_found_in ?d_relettered ?d_swapped ?d_are_like ?d_law_told_v13 ?d_law_refuses_v4 ?a_law_k76 ?l_law_k76 ?c_law_k76 ?k_law_k76 ?z_len ?z_isinstance ?z_all ?z_range ?z_str ?z_int ?z_bool ?z_tuple ?z_ValueError ?y_LETTERS ?y_MOST_ROWS ?y_MOST_COLUMNS ?e0 ?e2 ?e3 ?ep ?sp ?q0 ?ga0 ?gt0 ?ca0 ?mo0 ?mb0 ?cl0 ?kp0 ?kv0 ?np0 ?k00 ?k02 ?k03 ?q2 ?ga2 ?gt2 ?ca2 ?mo2 ?mb2 ?cl2 ?kp2 ?kv2 ?np2 ?k20 ?k22 ?k23 ?q3 ?ga3 ?gt3 ?ca3 ?mo3 ?mb3 ?cl3 ?kp3 ?kv3 ?np3 ?k30 ?k32 ?k33
  (case d_is_whole=>(refine' K1.DF.mk ?a ?l ?c ?k;(case a=>k_is);(case l=>k_is);(case c=>k_is);(case k=>k_is)))
  (case d_is_letter=>(refine' K1.DF.mk ?a ?l ?c ?k;(case a=>k_is);(case l=>k_is);(case c=>k_is);(case k=>k_is)))
  (case d_cells_of_row=>(refine' K1.DF.mk ?a ?l ?c ?k;(case a=>k_is);(case l=>k_is);(case c=>k_is);(case k=>k_is)))
  (case d_part_between=>(refine' K1.DF.mk ?a ?l ?c ?k;(case a=>k_is);(case l=>k_is);(case c=>k_is);(case k=>k_is)))
  (case d_with_names=>(refine' K1.DF.mk ?a ?l ?c ?k;(case a=>k_is);(case l=>k_is);(case c=>k_is);(case k=>k_is)))
  (case d_law_cell=>(refine' K1.DF.mk ?a ?l ?c ?k;(case a=>k_is);(case l=>k_is);(case c=>k_is);(case k=>k_is)))
  (case d_law_cells=>(refine' K1.DF.mk ?a ?l ?c ?k;(case a=>k_is);(case l=>k_is);(case c=>k_is);(case k=>k_is)))
  (case d_law_refused_v4=>(refine' K1.DF.mk ?a ?l ?c ?k;(case a=>k_is);(case l=>k_is);(case c=>k_is);(case k=>k_is)))
  (case d_law_relettered=>(refine' K1.DF.mk ?a ?l ?c ?k;(case a=>k_is);(case l=>k_is);(case c=>k_is);(case k=>k_is)))
  (case d_is_row=>(refine' K1.DF.mk ?a ?l ?c ?k;(case a=>k_is);(case l=>k_is);(case c=>k_is);(case k=>k_is)))
  (case d_is_cell=>(refine' K1.DF.mk ?a ?l ?c ?k;(case a=>k_is);(case l=>k_is);(case c=>k_is);(case k=>k_is)))
  (case d_need_letter=>(refine' K1.DF.mk ?a ?l ?c ?k;(case a=>k_is);(case l=>k_is);(case c=>k_is);(case k=>k_is)))
  (case d_all_cells=>(refine' K1.DF.mk ?a ?l ?c ?k;(case a=>k_is);(case l=>k_is);(case c=>k_is);(case k=>k_is)))
  (case d_lies_at=>(refine' K1.DF.mk ?a ?l ?c ?k;(case a=>k_is);(case l=>k_is);(case c=>k_is);(case k=>k_is)))
  (case d_law_drawn=>(refine' K1.DF.mk ?a ?l ?c ?k;(case a=>k_is);(case l=>k_is);(case c=>k_is);(case k=>k_is)))
  (case d_is_board=>(refine' K1.DF.mk ?a ?l ?c ?k;(case a=>k_is);(case l=>k_is);(case c=>k_is);(case k=>k_is)))
  (case d_need_cell=>(refine' K1.DF.mk ?a ?l ?c ?k;(case a=>k_is);(case l=>k_is);(case c=>k_is);(case k=>k_is)))
  (case d_law_board=>(refine' K1.DF.mk ?a ?l ?c ?k;(case a=>k_is);(case l=>k_is);(case c=>k_is);(case k=>k_is)))
  (case d_law_cell_in=>(refine' K1.DF.mk ?a ?l ?c ?k;(case a=>k_is);(case l=>k_is);(case c=>k_is);(case k=>k_is)))
  (case d_need_board=>(refine' K1.DF.mk ?a ?l ?c ?k;(case a=>k_is);(case l=>k_is);(case c=>k_is);(case k=>k_is)))
  (case d_cut_out=>(refine' K1.DF.mk ?a ?l ?c ?k;(case a=>k_is);(case l=>k_is);(case c=>k_is);(case k=>k_is)))
  (case d_found_in=>(refine' K1.DF.mk ?a ?l ?c ?k;(case a=>k_is);(case l=>k_is);(case c=>k_is);(case k=>k_is)))
  (case d_relettered=>(refine' K1.DF.mk ?a ?l ?c ?k;(case a=>k_is);(case l=>k_is);(case c=>k_is);(case k=>k_is)))
  (case d_swapped=>(refine' K1.DF.mk ?a ?l ?c ?k;(case a=>k_is);(case l=>k_is);(case c=>k_is);(case k=>k_is)))
  (case d_are_like=>(refine' K1.DF.mk ?a ?l ?c ?k;(case a=>k_is);(case l=>k_is);(case c=>k_is);(case k=>k_is)))
  (case d_law_told_v13=>(refine' K1.DF.mk ?a ?l ?c ?k;(case a=>k_is);(case l=>k_is);(case c=>k_is);(case k=>k_is)))
  (case d_law_refuses_v4=>(refine' K1.DF.mk ?a ?l ?c ?k;(case a=>k_is);(case l=>k_is);(case c=>k_is);(case k=>k_is)))
  (case a_law_k76=>k_is)
  (case l_law_k76=>k_is)
  (case c_law_k76=>k_is)
  (case k_law_k76=>k_is)
  (case z_len=>k_is)
  (case z_isinstance=>k_is)
  (case z_all=>k_is)
  (case z_range=>k_is)
  (case z_str=>k_is)
  (case z_int=>k_is)
  (case z_bool=>k_is)
  (case z_tuple=>k_is)
  (case z_ValueError=>k_is)
  (case y_LETTERS=>k_is)
  (case y_MOST_ROWS=>k_is)
  (case y_MOST_COLUMNS=>k_is)
  (case e0=>k_is)
  (case e2=>k_is)
  (case e3=>k_is)
  (case ep=>k_is)
  (case sp=>k_is)
  (case q0=>k_exc)
  (case ga0=>k_is)
  (case gt0=>k_is)
  (case ca0=>k_is)
  (case mo0=>k_is)
  (case mb0=>k_is)
  (case cl0=>k_is)
  (case kp0=>kit_is)
  (case kv0=>kit_is)
  (case np0=>rfl)
  (case k00=>kit_is)
  (case k02=>kit_is)
  (case k03=>kit_is)
  (case q2=>k_exc)
  (case ga2=>k_is)
  (case gt2=>k_is)
  (case ca2=>k_is)
  (case mo2=>k_is)
  (case mb2=>k_is)
  (case cl2=>k_is)
  (case kp2=>kit_is)
  (case kv2=>kit_is)
  (case np2=>rfl)
  (case k20=>kit_is)
  (case k22=>kit_is)
  (case k23=>kit_is)
  (case q3=>k_exc)
  (case ga3=>k_is)
  (case gt3=>k_is)
  (case ca3=>k_is)
  (case mo3=>k_is)
  (case mb3=>k_is)
  (case cl3=>k_is)
  (case kp3=>kit_is)
  (case kv3=>kit_is)
  (case np3=>rfl)
  (case k30=>kit_is)
  (case k32=>kit_is)
  (case k33=>kit_is)
