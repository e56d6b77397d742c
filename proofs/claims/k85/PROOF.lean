import PyProof.Rows.All
import Wide.All
import OpenK.AllK
import Wide.FinOn
import Lean
import PyProof.EqAt
import PyProof.EqKinds
import PyProof.TupleCall
import KE.KTryMore
import KE.KRevIter
import KE.KSortTup
import KE.KDictSum
import KE.KRevSl
import PyProof.Rows.TupDisplay
import PyProof.EnumFor
import PyProof.EnumMake
import PyProof.EnumStmt
import PyProof.DictUpdate
import PyProof.AttrMissSeq
import KE.KDictOf
import PySem.Challenge.RW_cellpatches_k85_whole_letters
set_option Elab.async false
set_option linter.all false
set_option maxRecDepth 100000
namespace L2
open PySem PySem.Spec PyProof.Rows
abbrev Key:=Sum Int Str
def lJ:Key→Value→Bool
 | .inl k,v=>Value.isInt k v
 | .inr x,v=>Value.isStrOf x v
def Cu(w:World):Key→Int
 | .inl k=>hashInt k
 | .inr x=>hashStr w x
theorem bp:∀{k:Key}{v:Value},lJ k v=true→(∃i t,k=Sum.inl i∧v=Value.int i t)∨(∃x t,k=Sum.inr x∧v=Value.str x t)
 | .inl i,v,h=>by
   obtain⟨t,e⟩:=Value.isInt_shape (k:=i) (v:=v) h
   exact .inl ⟨i,t,rfl,e⟩
 | .inr x,v,h=>by
   obtain⟨t,e⟩:=Value.isStrOf_shape (x:=x) (v:=v) h
   exact .inr ⟨x,t,rfl,e⟩
theorem r0(i:Int)(t:Tok):lJ (.inl i) (.int i t)=true:=by simp[lJ,Value.isInt]
theorem r6(x:Str)(t:Tok):lJ (.inr x) (.str x t)=true:=by simp[lJ,Value.isStrOf]
theorem yy(a b:Int):decide ((Sum.inl a:Key)=Sum.inl b)=(a==b):=by
 by_cases e:a=b
 ·subst e;simp
 ·have h:¬(Sum.inl a:Key)=Sum.inl b:=fun q=>e (Sum.inl.inj q)
  rw[decide_eq_false h]
  exact(beq_eq_false_iff_ne.mpr e).symm
theorem yB(a b:Str):decide ((Sum.inr a:Key)=Sum.inr b)=decide (a=b):=by
 by_cases e:a=b
 ·subst e;simp
 ·have h:¬(Sum.inr a:Key)=Sum.inr b:=fun q=>e (Sum.inr.inj q)
  rw[decide_eq_false h,decide_eq_false e]
theorem yz(a:Int)(b:Str):decide ((Sum.inl a:Key)=Sum.inr b)=false:=decide_eq_false (fun q=>nomatch q)
theorem yA(a:Str)(b:Int):decide ((Sum.inr a:Key)=Sum.inl b)=false:=decide_eq_false (fun q=>nomatch q)
def ba(prog:Program)(w:World):PySem.KeyKind prog w Key where
 is:=lJ
 hash:=Cu w
 inj:=fun v a b ha hb=>by
  rcases bp ha with⟨i,t,rfl,rfl⟩ | ⟨x,t,rfl,rfl⟩
  ·rcases bp hb with⟨j,u,rfl,e⟩ | ⟨y,u,rfl,e⟩
   ·injection e with e1 _;rw[e1]
   ·exact nomatch e
  ·rcases bp hb with⟨j,u,rfl,e⟩ | ⟨y,u,rfl,e⟩
   ·exact nomatch e
   ·injection e with e1 _;rw[e1]
 byValue:=fun k v h=>by
  rcases bp h with⟨i,t,rfl,rfl⟩ | ⟨x,t,rfl,rfl⟩<;>rfl
 pyHash:=fun hv h=>by
  rcases bp hv with⟨i,t,rfl,rfl⟩ | ⟨x,t,rfl,rfl⟩
  ·exact wpAny_pyHash_int h
  ·exact wpAny_pyHash_str h
 eqBool:=fun hu hv h=>by
  rcases bp hu with⟨i,t,rfl,rfl⟩ | ⟨x,t,rfl,rfl⟩
  ·rcases bp hv with⟨j,u,rfl,rfl⟩ | ⟨y,u,rfl,rfl⟩
   ·rw[yy] at h;exact wpAny_eqBool_int h
   ·rw[yz] at h;exact SeqAt.EqAt.int_str i t y u _ _ _ _ h
  ·rcases bp hv with⟨j,u,rfl,rfl⟩ | ⟨y,u,rfl,rfl⟩
   ·rw[yA] at h;exact SeqAt.EqAt.str_int x t j u _ _ _ _ h
   ·rw[yB] at h;exact wpAny_eqBool_str h
 «strs» :=fun k x t v h=>by
  rcases bp h with⟨i,u,rfl,e⟩ | ⟨y,u,rfl,e⟩
  ·exact nomatch e
  ·injection e with e1 _
   subst e1
   cases v<;>rfl
theorem oJ(prog:Program)(w:World)(i:Int)(t:Tok):(ba prog w).is (.inl i) (.int i t)=true:=r0 i t
theorem oK(prog:Program)(w:World)(x:Str)(t:Tok):(ba prog w).is (.inr x) (.str x t)=true:=r6 x t
inductive V where
 |non | bl (b:Bool) | int (i:Int) | str (x:Str) | byt (b:Array UInt8) | flt (b:UInt64) | ref (a:Addr) | ty (n:String)
 deriving DecidableEq
def RelV:V→Value→Prop
 | .non,u=>u=Value.none
 | .bl b,u=>u=Value.bool b
 | .int i,u=>∃t,u=Value.int i t
 | .str x,u=>∃t,u=Value.str x t
 | .byt b,u=>∃t,u=Value.bytes b t
 | .flt b,u=>∃t,u=Value.float b t
 | .ref a,u=>u=Value.ref a
 | .ty n,u=>u=Value.type n
abbrev Vals:List V→List Value→Prop:=Paired RelV
theorem Vals.length{xs:List V}{us:List Value}(r:Vals xs us):xs.length=us.length:=Paired.length r
theorem Vals.get:∀{xs:List V}{us:List Value}{i:Nat}{x:V},Vals xs us→xs[i]? =some x→∃u,us[i]? =some u∧RelV x u
 |_,_,_,_, .nil,e=>by simp at e
 |_,_,0,_, .cons r _,e=>by simp at e;subst e;exact⟨_,rfl,r⟩
 |_,_,i+1,x, .cons _ t,e=>by
  obtain⟨u,h1,h2⟩:=Vals.get (i:=i) (x:=x) t (by simpa using e)
  exact⟨u,by simpa using h1,h2⟩
theorem Vals.append:∀{xs ys:List V}{us ws:List Value},Vals xs us→Vals ys ws→Vals (xs++ys) (us++ws)
 |_,_,_,_, .nil,s=>s
 |_,_,_,_, .cons r t,s=> .cons r (Vals.append t s)
theorem Vals.take:∀{xs:List V}{us:List Value}(n:Nat),Vals xs us→Vals (xs.take n) (us.take n)
 |_,_,0,_=> .nil
 |_,_,_+1, .nil=> .nil
 |_,_,n+1, .cons r t=> .cons r (Vals.take n t)
theorem Vals.drop:∀{xs:List V}{us:List Value}(n:Nat),Vals xs us→Vals (xs.drop n) (us.drop n)
 |_,_,0,r=>r
 |_,_,_+1, .nil=> .nil
 |_,_,n+1, .cons _ t=>Vals.drop n t
def RelO:Option V→Option Value→Prop
 |some v,some u=>RelV v u
 |none,none=>True
 |_,_=>False
def KV{κ:Type}:List (κ×V)→List (κ×Value)→Prop:=Paired fun(p:κ×V) (q:κ×Value)=>p.1=q.1∧RelV p.2 q.2
def kV:Key→V
 | .inl i=> .int i
 | .inr x=> .str x
inductive HO where
 |lst (xs:List V)
 |tup (xs:List V)
 |dK (aB:List (Key×V)) | dT (aB:List (List Key×V))
 |set (S:Int→Bool) (n:Nat)
 |ins (C dx:Addr) (fs:List (Str×V))
 |own (x:Addr)
 |xd (fs:List (Str×V))
 |met (f x:Addr)
 |rng (lo hi:Int)
 |frz (o:Obj) (u:HO)
 |tbl (ps:Array Value)
 |ext (φ:Heap→Prop)
abbrev Hp:=Addr→Option HO
def upd(H:Hp)(a:Addr)(o:HO):Hp:=fun b=>if b=a then some o else H b
theorem ax{H:Hp}{a:Addr}{o:HO}:upd H a o a=some o:=by unfold upd;rw[if_pos rfl]
theorem aq{H:Hp}{a b:Addr}{o:HO}(h:b≠a):upd H a o b=H b:=by unfold upd;rw[if_neg h]
theorem xC{H:Hp}{a b:Addr}{o u:HO}(h:H a=some o)(h':H b=some u)(d:o≠u):a≠b:=by
 intro e;subst e;rw[h] at h';exact d (Option.some.inj h')
theorem bt{H:Hp}{a b:Addr}{o:HO}(h:H a=some o)(h':H b=none):a≠b:=by
 intro e;subst e;rw[h] at h';cases h'
section
variable(P:Program)(w:World)
def ObjOk(H:Hp)(h:Heap)(a:Addr):HO→Prop
 | .lst xs=>xs.length≤sizeLine∧∃(aH:List Value) (n:Nat),Vals xs aH∧h.get? a=some {cls:= .type "list",data:= .seq aH.toArray n}
 | .tup xs=>xs.length≤sizeLine∧∃aH:List Value,Vals xs aH∧IsTup h a aH.toArray
 | .dK aB=>aB.length≤sizeLine∧(a==sysModules)=false∧∃vs,KV aB vs∧h.DictOf (ba P w) a vs
 | .dT aB=>aB.length≤sizeLine∧(a==sysModules)=false∧∃xs:List (List Key×Addr×Value),
    Paired (fun (p:List Key×V) (q:List Key×Addr×Value)=>p.1=q.1∧H q.2.1=some (.tup (p.1.map kV))∧RelV p.2 q.2.2) aB xs∧
    ∃o es ep,h.get? a=some o∧o.ExactDict∧o.data= .dict es ep∧es.toList=xs.map (entryOfKey (tupleKind (ba P w)))∧(xs.map (·.1)).Nodup
 | .set S n=>h.SetOf (intKind P w) a S n
 | .ins C dx fs=>H dx=some (.own a)∧fs.length≤1000∧dx≠a∧h.get? a=some (PySem.W.instObj C dx)∧
    ∃mA,h.Ns1 dx mA∧(∀f,RelO (fs.lookup f) (mA f))∧PySem.Within mA (fs.map (·.1))
 | .own _=>∃o,h.get? a=some o
 | .xd fs=>∃mA,h.Ns1 a mA∧∀f,RelO (fs.lookup f) (mA f)
 | .rng lo hi=>∃t u v,h.get? a=some {cls:= .type "range",data:= .fields #[.int lo t, .int hi u, .int 1 v]}
 | .frz o u=>h.get? a=some o∧ObjOk H h a u
 | .tbl ps=>h.get? a=some {cls:= .none,data:= .fields ps}
 | .met f x=>h.get? a=some (PySem.W.methodObj (.ref f) (.ref x))
 | .ext φ=>φ h∧(∃o,h.get? a=some o)∧∀h1 h2:Heap,φ h1→(∀o,h1.get? a=some o→h2.get? a=some o)→φ h2
def HOk(H:Hp)(h:Heap):Prop:=∀a o,H a=some o→ObjOk P w H h a o
end
section
variable{P:Program}{w:World}{H H':Hp}{h h':Heap}{a:Addr}{o:HO}
theorem ObjOk.lt(x:ObjOk P w H h a o):a<h.objs.size:=by
 cases o with
 |lst xs=>obtain⟨_,_,_,_,e⟩:=x;exact Heap.lt_size e
 |tup xs=>obtain⟨_,_,_,p⟩:=x;exact p.lt
 |dK aB=>obtain⟨_,_,_,_,o,_,_,e,_⟩:=x;exact Heap.lt_size e
 |dT aB=>obtain⟨_,_,_,_,o,_,_,e,_⟩:=x;exact Heap.lt_size e
 |set S n=>obtain⟨o,_,_,_,e,_⟩:=x;exact Heap.lt_size e
 |ins C dx fs=>obtain⟨_,_,_,e,_⟩:=x;exact Heap.lt_size e
 |own y=>obtain⟨_,e⟩:=x;exact Heap.lt_size e
 |xd fs=>obtain⟨_,⟨_,_,_,e,_⟩,_⟩:=x;exact Heap.lt_size e
 |rng lo hi=>obtain⟨_,_,_,e⟩:=x;exact Heap.lt_size e
 |frz ob u=>obtain⟨e,_⟩:=x;exact Heap.lt_size e
 |tbl ps=>exact Heap.lt_size (show h.get? a=some _ from x)
 |met f y=>exact Heap.lt_size (show h.get? a=some _ from x)
 |ext φ=>obtain⟨_,⟨_,e⟩,_⟩:=x;exact Heap.lt_size e
theorem Paired.mapP{α β:Type}{F G:α→β→Prop}:∀{l₁:List α}{l₂:List β},Paired F l₁ l₂→(∀a b,F a b→G a b)→Paired G l₁ l₂
 |_,_, .nil,_=> .nil
 |_,_, .cons r t,f=> .cons (f _ _ r) (Paired.mapP t f)
theorem ObjOk.stay(x:ObjOk P w H h a o)(k:∀b u,(b=a∨H b=some (.own a))→h.get? b=some u→h'.get? b=some u)
 (ho:∀b,H b=some (.own a)→H' b=some (.own a))(ht:∀b xs,H b=some (.tup xs)→H' b=some (.tup xs)):ObjOk P w H' h' a o:=by
 induction o with
 |lst xs=>obtain⟨z,aH,n,r,e⟩:=x;exact⟨z,aH,n,r,k _ _ (.inl rfl) e⟩
 |tup xs=>obtain⟨z,aH,r,ob,e,c⟩:=x;exact⟨z,aH,r,ob,k _ _ (.inl rfl) e,c⟩
 |dK aB=>obtain⟨z,y,vs,r,ob,es,ep,e,c⟩:=x;exact⟨z,y,vs,r,ob,es,ep,k _ _ (.inl rfl) e,c⟩
 |dT aB=>
  obtain⟨z,y,xs,r,ob,es,ep,e,c⟩:=x
  exact⟨z,y,xs,Paired.mapP r fun p q z=>⟨z.1,ht _ _ z.2.1,z.2.2⟩,ob,es,ep,k _ _ (.inl rfl) e,c⟩
 |set S n=>obtain⟨ob,es,ep,t,e,c⟩:=x;exact⟨ob,es,ep,t,k _ _ (.inl rfl) e,c⟩
 |ins C dx fs=>
  obtain⟨d,z,ne,e,mA,⟨od,es,ep,e2,c⟩,r⟩:=x
  exact⟨ho _ d,z,ne,k _ _ (.inl rfl) e,mA,⟨od,es,ep,k _ _ (.inr d) e2,c⟩,r⟩
 |own y=>obtain⟨ob,e⟩:=x;exact⟨ob,k _ _ (.inl rfl) e⟩
 |xd fs=>obtain⟨mA,⟨od,es,ep,e,c⟩,r⟩:=x;exact⟨mA,⟨od,es,ep,k _ _ (.inl rfl) e,c⟩,r⟩
 |rng lo hi=>obtain⟨t,u,v,e⟩:=x;exact⟨t,u,v,k _ _ (.inl rfl) e⟩
 |frz ob u ih=>obtain⟨e,q⟩:=x;exact⟨k _ _ (.inl rfl) e,ih q⟩
 |tbl ps=>
  have e:h.get? a=some {cls:= .none,data:= .fields ps}:=x
  show h'.get? a=some {cls:= .none,data:= .fields ps}
  exact k a _ (.inl rfl) e
 |met f y=>
  have e:h.get? a=some (PySem.W.methodObj (.ref f) (.ref y)):=x
  show h'.get? a=some (PySem.W.methodObj (.ref f) (.ref y))
  exact k a _ (.inl rfl) e
 |ext φ=>obtain⟨p,⟨o,e⟩,st⟩:=x;exact⟨st _ _ p fun o q=>k _ _ (.inl rfl) q,⟨o,k _ _ (.inl rfl) e⟩,st⟩
theorem HOk.lt(x:HOk P w H h)(e:H a=some o):a<h.objs.size:=(x a o e).lt
theorem HOk.fresh(x:HOk P w H h)(e:h.objs.size≤a):H a=none:=by
 cases q:H a with
 |none=>rfl
 |some u=>exact absurd (Nat.lt_of_lt_of_le (x.lt q) e) (Nat.lt_irrefl _)
theorem HOk.kept(x:HOk P w H h)(k:∀b u,h.get? b=some u→h'.get? b=some u):HOk P w H h':=fun a o e=>
 (x a o e).stay (fun b u _ q=>k b u q) (fun _ q=>q) fun _ _ q=>q
theorem HOk.laid(x:HOk P w H h)(k:∀b u,h.get? b=some u→h'.get? b=some u)(hp:h.objs.size≤a)(new:ObjOk P w (upd H a o) h' a o):HOk P w (upd H a o) h':=fun b u e=>by
 have hn:=x.fresh hp
 by_cases hb:b=a
 ·subst hb;rw[ax] at e;cases e;exact new
 ·rw[aq hb] at e
  exact(x b u e).stay (fun c v _ q=>k c v q) (fun c q=>by rw[aq (bt q hn)];exact q) fun c xs q=>by rw[aq (bt q hn)];exact q
end
def Rd(H:Hp)(a:Addr)(u:HO):Prop:=H a=some u∨∃o,H a=some (.frz o u)
theorem Rd.ok{P:Program}{w:World}{H:Hp}{h:Heap}{a:Addr}{u:HO}(r:Rd H a u)(x:HOk P w H h):ObjOk P w H h a u:=by
 rcases r with r | ⟨o,r⟩
 ·exact x a u r
 ·obtain⟨_,q⟩:=x a _ r
  exact q
def zF:Option HO→Prop
 |some (.lst _)=>True
 |some (.dK _)=>True
 |some (.dT _)=>True
 |some (.set _ _)=>True
 |some (.ins _ _ _)=>True
 |some (.ext _)=>True
 |_=>False
section
variable{P:Program}{w:World}{H:Hp}{h h':Heap}{x e:Addr}{o':HO}
theorem HOk.write(ok:HOk P w H h)(mu:zF (H x))(he:e=x∨H e=some (.own x))(k:∀b u,b≠e→h.get? b=some u→h'.get? b=some u)(zv:∃u,h'.get? e=some u)
 (new:ObjOk P w (upd H x o') h' x o'):HOk P w (upd H x o') h':=fun b u q=>by
 have An:∀c y,H c=some (.own y)→c≠x:=fun c y r z=>by subst z;rw[r] at mu;exact mu
 have Cz:∀c xs,H c=some (.tup xs)→c≠x:=fun c xs r z=>by subst z;rw[r] at mu;exact mu
 by_cases hb:b=x
 ·subst hb;rw[ax] at q;cases q;exact new
 ·rw[aq hb] at q
  by_cases yf:b=e
  ·have q':H b=some (.own x):=by
    rcases he with z | z
    ·exact absurd (yf.trans z) hb
    ·rw[yf];exact z
   rw[q] at q';cases q'
   obtain⟨v,hv⟩:=zv
   exact⟨v,by rw[yf];exact hv⟩
  ·refine(ok b u q).stay (fun c v hc r=>k c v ?_ r) (fun c r=>by rw[aq (An c b r)];exact r) fun c xs r=>by rw[aq (Cz c xs r)];exact r
   rcases hc with rfl | hc
   ·exact yf
   ·rintro rfl
    rcases he with z | z
    ·exact An c b hc z
    ·rw[hc] at z;cases z;exact hb rfl
end
structure Un (fs ex:List Addr) (H H':Hp) (h h':Heap):Prop where
 keep:∀b o,h.get? b=some o→H b=none→b∉fs→b∉ex→h'.get? b=some o
 slot:∀b o,h.get? b=some o→H b=none→b∈fs→b∉ex→∃sl,h'.get? b=some {o with slots:=sl}
 free:∀b o,h.get? b=some o→H b=none→b∉ex→H' b=none
 there:∀b o,h.get? b=some o→b∉ex→∃o',h'.get? b=some o'
 tups:∀b xs,H b=some (.tup xs)→H' b=some (.tup xs)
 frzs:∀b o u,H b=some (.frz o u)→H' b=some (.frz o u)
 tbls:∀b ps,H b=some (.tbl ps)→∃more,H' b=some (.tbl (ps++more))
section
variable{fs BK ex pX:List Addr}{H H1 H2:Hp}{h h1 h2 h':Heap}{a x e:Addr}{o:HO}
theorem Un.any(u:Un fs ex H H1 h h1){b:Addr}{ob:Obj}(q:h.get? b=some ob)(n:H b=none)(hx:b∉ex):∃sl,h1.get? b=some {ob with slots:=sl}:=by
 by_cases hb:b∈fs
 ·exact u.slot b ob q n hb hx
 ·exact⟨ob.slots,u.keep b ob q n hb hx⟩
theorem Un.trans(a:Un fs ex H H1 h h1)(b:Un fs ex H1 H2 h1 h2):Un fs ex H H2 h h2 where
 keep:=fun c ob q n hc hx=>b.keep c ob (a.keep c ob q n hc hx) (a.free c ob q n hx) hc hx
 slot:=fun c ob q n hc hx=>by
  obtain⟨sl,e1⟩:=a.slot c ob q n hc hx
  obtain⟨zg,e2⟩:=b.slot c _ e1 (a.free c ob q n hx) hc hx
  exact⟨zg,e2⟩
 free:=fun c ob q n hx=>by
  obtain⟨o',e1⟩:=a.there c ob q hx
  exact b.free c o' e1 (a.free c ob q n hx) hx
 there:=fun c ob q hx=>by
  obtain⟨o',e1⟩:=a.there c ob q hx
  exact b.there c o' e1 hx
 tups:=fun c xs q=>b.tups c xs (a.tups c xs q)
 frzs:=fun c ob xs q=>b.frzs c ob xs (a.frzs c ob xs q)
 tbls:=fun c ps q=>by
  obtain⟨m1,e1⟩:=a.tbls c ps q
  obtain⟨m2,e2⟩:=b.tbls c _ e1
  exact⟨m1++m2,by rw[e2,Array.append_assoc]⟩
theorem Un.kept(k:∀b u,h.get? b=some u→h'.get? b=some u):Un fs ex H H h h':=
 ⟨fun b ob q _ _ _=>k b ob q,fun b ob q _ _ _=>⟨ob.slots,k b ob q⟩,fun _ _ _ n _=>n,fun b ob q _=>⟨ob,k b ob q⟩,fun _ _ q=>q,fun _ _ _ q=>q,fun _ ps q=>⟨#[],by rw[q];simp⟩⟩
theorem Un.refl:Un fs ex H H h h:=Un.kept fun _ _ q=>q
theorem Un.laid(k:∀b u,h.get? b=some u→h'.get? b=some u)(hp:h.objs.size≤a)(hn:H a=none):Un fs ex H (upd H a o) h h' where
 keep:=fun b u q _ _ _=>k b u q
 slot:=fun b u q _ _ _=>⟨u.slots,k b u q⟩
 free:=fun b u q n _=>by rw[aq (Nat.ne_of_lt (Nat.lt_of_lt_of_le (Heap.lt_size q) hp))];exact n
 there:=fun b u q _=>⟨u,k b u q⟩
 tups:=fun b xs q=>by rw[aq (bt q hn)];exact q
 frzs:=fun b u xs q=>by rw[aq (bt q hn)];exact q
 tbls:=fun b ps q=>⟨#[],by rw[aq (bt q hn),q];simp⟩
theorem Un.write(mu:zF (H x))(he:e=x∨H e=some (.own x))(k:∀b u,b≠e→h.get? b=some u→h'.get? b=some u)(zv:∃u,h'.get? e=some u):Un fs ex H (upd H x o) h h':=by
 have hx:∀b,H b=none→b≠x:=fun b n z=>by subst z;rw[n] at mu;exact mu
 have hb:∀b,H b=none→b≠e:=fun b n z=>by
  subst z
  rcases he with r | r
  ·exact hx b n r
  ·rw[n] at r;cases r
 have hm:∀b u,H b=some u→¬zF (some u)→b≠x:=fun b u q nm z=>by subst z;rw[q] at mu;exact nm mu
 refine⟨fun b u q n _ _=>k b u (hb b n) q,fun b u q n _ _=>⟨u.slots,k b u (hb b n) q⟩,fun b u q n _=>by rw[aq (hx b n)];exact n,fun b u q _=>?_,
  fun b xs q=>by rw[aq (hm b _ q fun z=>z)];exact q,fun b u xs q=>by rw[aq (hm b _ q fun z=>z)];exact q,fun b ps q=>⟨#[],by rw[aq (hm b _ q fun z=>z),q];simp⟩⟩
 by_cases yf:b=e
 ·subst yf;exact zv
 ·exact⟨u,k b u yf q⟩
theorem Un.mono(u:Un fs ex H H1 h h1)(hs:∀b∈fs,b∈BK)(hx:∀b∈ex,b∈pX):Un BK pX H H1 h h1:=
 ⟨fun b ob q n hb he=>u.keep b ob q n (fun z=>hb (hs b z)) fun z=>he (hx b z),fun _ _ q n _ he=>u.any q n fun z=>he (hx _ z),fun b ob q n he=>u.free b ob q n fun z=>he (hx b z),fun b ob q he=>u.there b ob q fun z=>he (hx b z),u.tups,u.frzs,u.tbls⟩
end
def Bn(h:Heap)(H:Hp):List Addr:=(List.range h.objs.size).filter fun a=>(H a).isSome
def mD(h:Heap)(H:Hp):Heap:=PySem.W.hideAll h (Bn h H)
theorem rS(h:Heap)(H:Hp):(mD h H).objs.size=h.objs.size:=PySem.W.hideAll_size _ _
theorem tR{h:Heap}{H:Hp}{b:Addr}{o:Obj}(e:h.get? b=some o)(n:H b=none):(mD h H).get? b=some o:=
 PySem.W.hideAll_get _ e fun hm=>by
  have q:(H b).isSome=true:=(List.mem_filter.mp hm).2
  rw[n] at q;simp at q
theorem v5{h:Heap}{H:Hp}{b:Addr}{o:Obj}(e:(mD h H).get? b=some o):h.get? b=some o∧H b=none:=by
 have e':h.get? b=some o:=PySem.W.of_hideAll (Bn h H) e
 refine⟨e',?_⟩
 cases q:H b with
 |none=>rfl
 |some x=>
  have hm:b∈Bn h H:=List.mem_filter.mpr ⟨List.mem_range.mpr (Heap.lt_size e'),by simp[q]⟩
  have z:(mD h H).get? b=none:=PySem.W.hideAll_none (Bn h H) hm
  rw[z] at e;cases e
def vv(g h:Heap)(L:Addr):List (Addr×Obj):=(List.range h.objs.size).filterMap fun a=>if a=L∨(g.get? a).isSome=true then none else(h.get? a).map fun o=>(a,o)
def rest(g h:Heap)(L d:Addr):List (Addr×Obj):=(vv g h L).filter fun p=>decide (p.1≠d)
structure Mod (K:W.Frag) (mg:Str→Option Value) (base:Heap):Prop where
 kin:K.In base
 glob:base.Ns mainGlobals mg
 blt:∃mb,base.Ns builtinsNs mb∧∀x:Str,x≠"__name__"→mb x=bootBuiltins x
 nolimit:base.NoLimit
structure Cx where
 prog:Program
 w:World
 K:W.Frag
 mg:Str→Option Value
 base:Heap
 A:Around
 N:List Str
 s₀:Shared
 H₀:Hp
 env:Env
 outer:List Env
 stack:List Env
 ex:List Addr
 fn:Str→Bool
 calm:Bool
 pn:List (Addr×Obj)
 xe:Value→Shared→Prop
def jk(l:List Env):List Addr:=l.filterMap (·.frame)
abbrev Cx.fs(X:Cx):List Addr:=jk X.outer
def Bz(sc:Scope)(x:Str):Prop:=sc.names.lookup x=some .local∨sc.names.lookup x=some .cell∨sc.names.lookup x=some .free
def Loc(sc:Scope)(x:Str):Prop:=sc.names.lookup x=some .local∨sc.names.lookup x=some .cell
def Look(env:Env)(h:Heap)(m:Str→Option Value)(x:Str)(u:Value):Prop:=
 (env.kindOf x=some .local∧m x=some u)∨((env.kindOf x=some .cell∨env.kindOf x=some .free)∧∃c,env.cells.lookup x=some c∧h.IsCell c (some u))
structure Cx.Ok (X:Cx):Prop where
 mod:Mod X.K X.mg X.base
 kind:X.env.scope.kind= .function
 glob:X.env.globals=mainGlobals
 blt:X.env.builtins=builtinsNs
 above:X.s₀.heap.objs.size≤X.env.locals
 inj:∀x y c,X.env.cells.lookup x=some c→X.env.cells.lookup y=some c→x=y
 has:∀x,(X.env.kindOf x=some .cell∨X.env.kindOf x=some .free)→∃c,X.env.cells.lookup x=some c
 cab:∀x c,X.fn x=true→X.env.cells.lookup x=some c→X.s₀.heap.objs.size≤c
 hd:X.calm=true→X.A.handled=none
 frames:X.A.frames=some X.stack
 stk:X.stack=X.outer∨(X.stack=X.env::X.outer∧X.env.frame=some X.env.locals)
 exf:∀b∈X.ex,b≠X.env.locals∧∀x c,X.env.cells.lookup x=some c→c≠b
 bs:∀b o,X.base.get? b=some o→X.s₀.heap.get? b=some o∧X.H₀ b=none
 bsz:X.base.objs.size≤X.s₀.heap.objs.size
 noex:∀b o,X.base.get? b=some o→b∉X.ex
 exfs:∀b∈X.ex,b∉X.fs
 funs:X.s₀.heap.FunFrames X.base X.outer
 frf:∀b∈X.fs,X.H₀ b=none
structure Inv (X:Cx) (pins:List (Addr×Obj)) (σ:List (Option V)) (H:Hp) (s:Shared):Prop where
 ok:X.Ok
 os:s.os=X.s₀.os
 bare:AllBare s.gens
 base:Un X.fs X.ex X.H₀ H X.s₀.heap s.heap
 loc:∃m,s.heap.Ns X.env.locals m∧∀(i:Nat) (x:Str) (v:V),X.N[i]? =some x→σ[i]? =some (some v)→Bz X.env.scope x→∃u,RelV v u∧Look X.env s.heap m x u
 cell:∀x c,X.env.cells.lookup x=some c→∃v,s.heap.IsCell c v
 free:H X.env.locals=none
 freeC:∀x c,X.env.cells.lookup x=some c→H c=none
 pin:∀p∈X.pn++pins,s.heap.get? p.1=some p.2∧H p.1=none∧p.1≠X.env.locals∧p.1∉X.fs∧∀v,p.2.data≠ .cell v
 hok:HOk X.prog X.w H s.heap
 len:σ.length=X.N.length
section
variable{X:Cx}{pins:List (Addr×Obj)}{σ:List (Option V)}{H H':Hp}{s:Shared}{h':Heap}
theorem Cx.Ok.nofr(ok:X.Ok){b:Addr}{o:Obj}(e:X.base.get? b=some o):b∉X.fs:=fun hb=>by
 have:=(ok.funs.mem hb).1
 rw[e] at this;cases this
theorem Inv.bs(I:Inv X pins σ H s):∀b o,X.base.get? b=some o→s.heap.get? b=some o∧H b=none:=fun b o e=>
 ⟨I.base.keep b o (I.ok.bs b o e).1 (I.ok.bs b o e).2 (I.ok.nofr e) (I.ok.noex b o e),I.base.free b o (I.ok.bs b o e).1 (I.ok.bs b o e).2 (I.ok.noex b o e)⟩
theorem Inv.bk(I:Inv X pins σ H s):∀b o,X.base.get? b=some o→s.heap.get? b=some o:=fun b o e=>(I.bs b o e).1
theorem Inv.mod(I:Inv X pins σ H s):Mod X.K X.mg X.base:=I.ok.mod
theorem Inv.kIn(I:Inv X pins σ H s):X.K.In s.heap:=I.ok.mod.kin.keeps I.bk
theorem Inv.nolimit(I:Inv X pins σ H s):s.heap.NoLimit:=I.ok.mod.nolimit.keeps I.bk
theorem Inv.lt(I:Inv X pins σ H s):X.env.locals<s.heap.objs.size:=let ⟨_,hn,_⟩:=I.loc;hn.lt
theorem Inv.sz(I:Inv X pins σ H s):X.s₀.heap.objs.size≤s.heap.objs.size:=Nat.le_trans I.ok.above (Nat.le_of_lt I.lt)
theorem Inv.nofs(I:Inv X pins σ H s){a:Addr}(h:s.heap.objs.size≤a):a∉X.fs:=fun hb=>by
 obtain⟨_,o,ho,_⟩:=I.ok.funs.mem hb
 exact absurd (Nat.lt_of_lt_of_le (Heap.lt_size ho) (Nat.le_trans I.sz h)) (Nat.lt_irrefl _)
theorem Inv.cne(I:Inv X pins σ H s):∀x c,X.env.cells.lookup x=some c→c≠X.env.locals:=fun x c e z=>by
 obtain⟨v,o,ho,hd⟩:=I.cell x c e
 obtain⟨m,⟨o',es,ep,lH,yh,_⟩,_⟩:=I.loc
 rw[z,lH] at ho;cases ho;rw[yh] at hd;cases hd
theorem Inv.funs(I:Inv X pins σ H s):s.heap.FunFrames X.base X.outer:=by
 have all:∀(l:List Env),(∀b∈jk l,b∈X.fs)→X.s₀.heap.FunFrames X.base l→s.heap.FunFrames X.base l:=by
  intro l
  induction l with
  |nil=>intro _ _;trivial
  |cons env r ih=>
   intro hs hl
   obtain⟨hk,⟨L,o,hf,hn,ho,hd⟩,hr⟩:=hl
   have hL:L∈X.fs:=hs L (by unfold jk;rw[List.filterMap_cons,hf];exact List.mem_cons_self)
   obtain⟨sl,e⟩:=I.base.slot L o ho (I.ok.frf L hL) hL fun z=>I.ok.exfs L z hL
   exact⟨hk,⟨L,_,hf,hn,e,hd⟩,ih (fun b hb=>hs b (by unfold jk;rw[List.filterMap_cons,hf];exact List.mem_cons_of_mem _ hb)) hr⟩
 exact all X.outer (fun _ hb=>hb) I.ok.funs
theorem Inv.stack(I:Inv X pins σ H s):s.heap.FunFrames X.base X.stack:=by
 rcases I.ok.stk with e | ⟨e,hf⟩
 ·rw[e];exact I.funs
 ·rw[e]
  obtain⟨m,hn,_⟩:=I.loc
  refine .cons (by rw[I.ok.kind];decide) hf hn ?_ I.funs
  exact Heap.get?_none_of_le (Nat.le_trans I.ok.bsz I.ok.above)
theorem Inv.stkSub(I:Inv X pins σ H s):∀b∈jk X.stack,b∈X.env.locals::X.fs:=fun b hb=>by
 rcases I.ok.stk with e | ⟨e,hf⟩
 ·rw[e] at hb;exact List.mem_cons_of_mem _ hb
 ·rw[e] at hb
  unfold jk at hb
  rw[List.filterMap_cons,hf] at hb
  exact hb
theorem Inv.stkFree(I:Inv X pins σ H s):∀b∈jk X.stack,H b=none:=fun b hb=>by
 rcases List.mem_cons.mp (I.stkSub b hb) with e | hb
 ·rw[e];exact I.free
 ·obtain⟨_,o,ho,_⟩:=I.ok.funs.mem hb
  exact I.base.free b o ho (I.ok.frf b hb) fun z=>I.ok.exfs b z hb
theorem Inv.step{g':Array GenState}{t':Nat}{d':Drawn}{ch:List Addr}(I:Inv X pins σ H s)
 (vp:∀b∈ch,(b∈X.ex∨X.s₀.heap.objs.size≤b)∧b≠X.env.locals∧(∀x c,X.env.cells.lookup x=some c→c≠b)∧∀p∈X.pn++pins,p.1≠b)
 (keep:∀b o,b≠X.env.locals→b∉X.fs→b∉ch→s.heap.get? b=some o→H b=none→h'.get? b=some o)
 (slot:∀b o,b≠X.env.locals→b∈X.fs→b∉ch→s.heap.get? b=some o→H b=none→∃sl,h'.get? b=some {o with slots:=sl})(free:∀b o,b∉ch→s.heap.get? b=some o→H b=none→H' b=none)
 (there:∀b o,b∉ch→s.heap.get? b=some o→∃o',h'.get? b=some o')
 (tups:∀b xs,H b=some (.tup xs)→H' b=some (.tup xs))(frzs:∀b o u,H b=some (.frz o u)→H' b=some (.frz o u))(tbls:∀b ps,H b=some (.tbl ps)→∃more,H' b=some (.tbl (ps++more)))
 (ns:∀m,s.heap.Ns X.env.locals m→h'.Ns X.env.locals m)(hok:HOk X.prog X.w H' h')(hg:AllBare g'):
 Inv X pins σ H' {s with heap:=h',gens:=g',drawn:=d',toks:=t'}:=by
 have DC:∀b o,X.s₀.heap.get? b=some o→b≠X.env.locals:=fun b o e=>Nat.ne_of_lt (Nat.lt_of_lt_of_le (Heap.lt_size e) I.ok.above)
 have Bh:∀b o,X.s₀.heap.get? b=some o→b∉X.ex→b∉ch:=fun b o e hx hb=>by
  rcases(vp b hb).1 with z | z
  ·exact hx z
  ·exact absurd (Nat.lt_of_lt_of_le (Heap.lt_size e) z) (Nat.lt_irrefl _)
 have cellK:∀x c,X.env.cells.lookup x=some c→∀v,s.heap.IsCell c v→h'.IsCell c v:=fun x c e v ⟨o,ho,hd⟩=>by
  have Ak:c∉ch:=fun z=>(vp c z).2.2.1 x c e rfl
  by_cases hc:c∈X.fs
  ·obtain⟨sl,q⟩:=slot c o (I.cne x c e) hc Ak ho (I.freeC x c e)
   exact⟨_,q,hd⟩
  ·exact⟨o,keep c o (I.cne x c e) hc Ak ho (I.freeC x c e),hd⟩
 refine⟨I.ok,I.os,hg,⟨fun b o e n hb hx=>?_,fun b o e n hb hx=>?_,fun b o e n hx=>?_,fun b o e hx=>?_,fun b xs e=>tups b xs (I.base.tups b xs e),fun b o xs e=>frzs b o xs (I.base.frzs b o xs e),fun b ps e=>?_⟩,?_,fun x c e=>?_,?_,fun x c e=>?_,fun p hp=>?_,hok,I.len⟩
 ·exact keep b o (DC b o e) hb (Bh b o e hx) (I.base.keep b o e n hb hx) (I.base.free b o e n hx)
 ·obtain⟨sl,e1⟩:=I.base.slot b o e n hb hx
  obtain⟨zg,e2⟩:=slot b _ (DC b o e) hb (Bh b o e hx) e1 (I.base.free b o e n hx)
  exact⟨zg,e2⟩
 ·obtain⟨o',e1⟩:=I.base.there b o e hx
  exact free b o' (Bh b o e hx) e1 (I.base.free b o e n hx)
 ·obtain⟨o',e1⟩:=I.base.there b o e hx
  exact there b o' (Bh b o e hx) e1
 ·obtain⟨m1,e1⟩:=I.base.tbls b ps e
  obtain⟨m2,e2⟩:=tbls b _ e1
  exact⟨m1++m2,by rw[e2,Array.append_assoc]⟩
 ·obtain⟨m,hn,hl⟩:=I.loc
  refine⟨m,ns m hn,fun i x v e1 e2 e3=>?_⟩
  obtain⟨u,r,l⟩:=hl i x v e1 e2 e3
  refine⟨u,r,?_⟩
  rcases l with l | ⟨k,c,e,z⟩
  ·exact .inl l
  ·exact .inr ⟨k,c,e,cellK x c e _ z⟩
 ·obtain⟨v,z⟩:=I.cell x c e
  exact⟨v,cellK x c e v z⟩
 ·obtain⟨m,⟨o,_,_,ho,_⟩,_⟩:=I.loc
  exact free _ o (fun z=>(vp _ z).2.1 rfl) ho I.free
 ·obtain⟨v,o,ho,hd⟩:=I.cell x c e
  exact free c o (fun z=>(vp c z).2.2.1 x c e rfl) ho (I.freeC x c e)
 ·obtain⟨e,n,ne,nf,d⟩:=I.pin p hp
  have Ak:p.1∉ch:=fun z=>(vp p.1 z).2.2.2 p hp rfl
  exact⟨keep p.1 p.2 ne nf Ak e n,free p.1 p.2 Ak e n,ne,nf,d⟩
theorem Inv.un{t':Nat}(I:Inv X pins σ H s)(u:Un X.fs [] H H' s.heap h')(hok:HOk X.prog X.w H' h'):Inv X pins σ H' {s with heap:=h',toks:=t'}:=by
 obtain⟨m,⟨o,es,ep,ho,r⟩,_⟩:=id I.loc
 obtain⟨sl,hL⟩:=u.any ho I.free (by simp)
 exact I.step (g':=s.gens) (d':=s.drawn) (ch:=[]) (fun _ z=>nomatch z) (fun b o _ hb _ e n=>u.keep b o e n hb (by simp)) (fun b o _ hb _ e n=>u.slot b o e n hb (by simp)) (fun b o _ e n=>u.free b o e n (by simp)) (fun b o _ e=>u.there b o e (by simp)) u.tups u.frzs u.tbls (fun m' hm=>by
  obtain⟨o',BJ,BH,lH,r'⟩:=hm
  rw[ho] at lH;cases lH
  exact⟨_,BJ,BH,hL,r'⟩) hok I.bare
theorem Inv.call{g':Array GenState}{t':Nat}{d':Drawn}{ch:List Addr}(I:Inv X pins σ H s)(u:Un (jk X.stack) ch H H' s.heap h')(hok:HOk X.prog X.w H' h')(hg:AllBare g')
 (vp:∀b∈ch,(b∈X.ex∨X.s₀.heap.objs.size≤b)∧b≠X.env.locals∧(∀x c,X.env.cells.lookup x=some c→c≠b)∧∀p∈X.pn++pins,p.1≠b):
 Inv X pins σ H' {s with heap:=h',gens:=g',drawn:=d',toks:=t'}:=by
 obtain⟨m,⟨o,es,ep,ho,r⟩,_⟩:=id I.loc
 obtain⟨sl,hL⟩:=u.any ho I.free fun z=>(vp _ z).2.1 rfl
 exact I.step (ch:=ch) vp (fun b o hL hb hc e n=>u.keep b o e n (fun z=>(List.mem_cons.mp (I.stkSub b z)).elim hL hb) hc) (fun b o _ _ hc e n=>u.any e n hc) (fun b o hc e n=>u.free b o e n hc) (fun b o hc e=>u.there b o e hc) u.tups u.frzs u.tbls (fun m' hm=>by
  obtain⟨o',BJ,BH,lH,r'⟩:=hm
  rw[ho] at lH;cases lH
  exact⟨_,BJ,BH,hL,r'⟩) hok hg
theorem Inv.turned{t':Nat}{it:Addr}(I:Inv X pins σ H s)(k:∀b o,b≠it→s.heap.get? b=some o→h'.get? b=some o)(hn:H it=none)(hL:it≠X.env.locals)
 (h1:it∈X.ex∨X.s₀.heap.objs.size≤it)(h2:∀x c,X.env.cells.lookup x=some c→c≠it)(h3:∀p∈X.pn++pins,p.1≠it):Inv X pins σ H {s with heap:=h',toks:=t'}:=by
 have DD:∀b u,H b=some u→b≠it:=fun b u e z=>by rw[z,hn] at e;cases e
 refine I.step (g':=s.gens) (d':=s.drawn) (ch:=[it]) (fun b hb=>?_) (fun b o _ _ hc e _=>k b o (fun z=>hc (by simp[z])) e) (fun b o _ _ hc e _=>⟨o.slots,k b o (fun z=>hc (by simp[z])) e⟩) (fun _ _ _ _ n=>n)
  (fun b o hc e=>⟨o,k b o (fun z=>hc (by simp[z])) e⟩) (fun _ _ e=>e) (fun _ _ _ e=>e) (fun b ps e=>⟨#[],by rw[e];simp⟩) (fun m hm=>?_) (fun b u e=>?_) I.bare
 ·have e:b=it:=by simpa using hb
  subst e
  exact⟨h1,hL,h2,h3⟩
 ·obtain⟨o,es,ep,ho,r⟩:=hm
  exact⟨o,es,ep,k _ o (Ne.symm hL) ho,r⟩
 ·refine(I.hok b u e).stay (fun c v hc q=>k c v ?_ q) (fun _ q=>q) fun _ _ q=>q
  rcases hc with z | z
  ·rw[z];exact DD b u e
  ·exact DD c _ z
theorem Inv.tok(I:Inv X pins σ H s)(t:Nat):Inv X pins σ H {s with toks:=t}:=I.un (h':=s.heap) (t':=t) Un.refl I.hok
theorem Inv.kept{t':Nat}(I:Inv X pins σ H s)(k:∀b u,s.heap.get? b=some u→h'.get? b=some u):Inv X pins σ H {s with heap:=h',toks:=t'}:=I.un (Un.kept k) (I.hok.kept k)
theorem Inv.laid{a:Addr}{o:HO}{t':Nat}(I:Inv X pins σ H s)(k:∀b u,s.heap.get? b=some u→h'.get? b=some u)(hp:s.heap.objs.size≤a)(new:ObjOk X.prog X.w (upd H a o) h' a o):
 Inv X pins σ (upd H a o) {s with heap:=h',toks:=t'}:=I.un (Un.laid k hp (I.hok.fresh hp)) (I.hok.laid k hp new)
theorem Inv.write{x e:Addr}{o:HO}{t':Nat}(I:Inv X pins σ H s)(mu:zF (H x))(he:e=x∨H e=some (.own x))(k:∀b u,b≠e→s.heap.get? b=some u→h'.get? b=some u)(zv:∃u,h'.get? e=some u)
 (new:ObjOk X.prog X.w (upd H x o) h' x o):Inv X pins σ (upd H x o) {s with heap:=h',toks:=t'}:=I.un (Un.write mu he k zv) (I.hok.write mu he k zv new)
theorem Inv.pins_of{xI:List (Addr×Obj)}(I:Inv X pins σ H s)(h:∀p∈xI,s.heap.get? p.1=some p.2∧H p.1=none∧p.1≠X.env.locals∧p.1∉X.fs∧∀v,p.2.data≠ .cell v):Inv X xI σ H s:=
 ⟨I.ok,I.os,I.bare,I.base,I.loc,I.cell,I.free,I.freeC,fun p hp=>(List.mem_append.mp hp).elim (fun z=>I.pin p (List.mem_append_left _ z)) (h p),I.hok,I.len⟩
theorem oM{N:List Str}(hN:N.Nodup){i j:Nat}{x:Str}(a:N[i]? =some x)(b:N[j]? =some x):i=j:=by
 obtain⟨h1,e1⟩:=List.getElem?_eq_some_iff.mp a
 obtain⟨h2,e2⟩:=List.getElem?_eq_some_iff.mp b
 exact(List.getElem_inj hN).mp (e1.trans e2.symm)
theorem l_{M:Model}{A:Around}{E:Value→Shared→Prop}{i:Nat}{x:Str}{v:V}{u:Value}{Q:Unit→Shared→Prop}(I:Inv X pins σ H s)(hN:X.N.Nodup)(hi:X.N[i]? =some x)(hx:Loc X.env.scope x)(r:RelV v u)
 (h:∀s',Inv X pins (σ.set i (some v)) H s'→(∃a,Heap.SameBut a s.heap s'.heap∧(a=X.env.locals∨X.env.cells.lookup x=some a))→Q () s')(hf:X.fn x=true∨X.env.scope.names.lookup x=some .local:=by first | exact .inl rfl | exact .inr rfl | assumption):wpAny M A (storeName X.env x u) Q E s:=by
 obtain⟨m,hn,hl⟩:=id I.loc
 have BV:(X.env.scope.kind== .class||(X.env.scope.kind== .module&&X.env.locals !=X.env.globals))=false:=by rw[I.ok.kind];rfl
 have Dk:i<σ.length:=by rw[I.len];exact(List.getElem?_eq_some_iff.mp hi).1
 have cne:=I.cne
 have tracked:∀{a:Addr}{h':Heap},(∃o,s.heap.get? a=some o∧H a=none)→Heap.SameBut a s.heap h'→HOk X.prog X.w H h':=fun {a h'} ha hs b ob e=>by
  obtain⟨_,_,xt⟩:=ha
  refine(I.hok b ob e).stay (fun c w' hc q=>(hs.2 c ?_).trans q) (fun _ q=>q) fun _ _ q=>q
  rintro rfl
  rcases hc with rfl | hc
  ·rw[xt] at e;cases e
  ·rw[xt] at hc;cases hc
 rcases hx with hk | hk
 ·refine wpAny_storeName_local hk hn (fun h' Et hs=>?_) BV
  obtain⟨oL,_,_,Ew,_⟩:=id hn
  refine h _ ⟨I.ok,I.os,I.bare,⟨fun b o e n hb hx=>?_,fun b o e n hb hx=>?_,I.base.free,fun b o e hx=>?_,I.base.tups,I.base.frzs,I.base.tbls⟩,⟨_,Et,fun j y v' e1 e2 e3=>?_⟩,fun y c e=>?_,I.free,I.freeC,fun p hp=>?_,tracked ⟨oL,Ew,I.free⟩ hs,by simpa using I.len⟩ ⟨_,hs, .inl rfl⟩
  ·exact(hs.2 b (Nat.ne_of_lt (Nat.lt_of_lt_of_le (Heap.lt_size e) I.ok.above))).trans (I.base.keep b o e n hb hx)
  ·obtain⟨sl,e1⟩:=I.base.slot b o e n hb hx
   exact⟨sl,(hs.2 b (Nat.ne_of_lt (Nat.lt_of_lt_of_le (Heap.lt_size e) I.ok.above))).trans e1⟩
  ·obtain⟨o',e1⟩:=I.base.there b o e hx
   exact⟨o',(hs.2 b (Nat.ne_of_lt (Nat.lt_of_lt_of_le (Heap.lt_size e) I.ok.above))).trans e1⟩
  ·by_cases hj:j=i
   ·subst hj
    rw[hi] at e1;cases e1
    rw[List.getElem?_set_self Dk] at e2
    cases e2
    exact⟨u,r, .inl ⟨hk,by simp⟩⟩
   ·rw[List.getElem?_set_ne (Ne.symm hj)] at e2
    obtain⟨u',r',q⟩:=hl j y v' e1 e2 e3
    refine⟨u',r',?_⟩
    rcases q with⟨k,e⟩ | ⟨k,c,e,z⟩
    ·refine .inl ⟨k,?_⟩
     have:y≠x:=fun e=>hj (oM hN e1 (e▸hi))
     simp[this,e]
    ·exact .inr ⟨k,c,e,z.sameBut hs (cne y c e)⟩
  ·obtain⟨w',z⟩:=I.cell y c e
   exact⟨w',z.sameBut hs (cne y c e)⟩
  ·obtain⟨e,n,ne,nf,d⟩:=I.pin p hp
   exact⟨(hs.2 p.1 ne).trans e,n,ne,nf,d⟩
 ·have BY:X.fn x=true:=by
   rcases hf with z | z
   ·exact z
   ·rw[z] at hk;cases hk
  obtain⟨c,hc⟩:=I.ok.has x (.inl hk)
  obtain⟨w',z⟩:=I.cell x c hc
  refine wpAny_storeName_cell I.ok.kind hk hc z (fun h' xn hs=>?_)
  obtain⟨oc,Dr,B_⟩:=id z
  refine h {s with heap:=h'} ⟨I.ok,I.os,I.bare,⟨fun b o e n hb hx=>?_,fun b o e n hb hx=>?_,I.base.free,fun b o e hx=>?_,I.base.tups,I.base.frzs,I.base.tbls⟩,⟨m,hn.sameBut hs (Ne.symm (cne x c hc)),fun j y v' e1 e2 e3=>?_⟩,fun y c' e=>?_,I.free,I.freeC,fun p hp=>?_,tracked ⟨oc,Dr,I.freeC x c hc⟩ hs,by simpa using I.len⟩ ⟨c,hs, .inr hc⟩
  ·exact(hs.2 b (Nat.ne_of_lt (Nat.lt_of_lt_of_le (Heap.lt_size e) (I.ok.cab x c BY hc)))).trans (I.base.keep b o e n hb hx)
  ·obtain⟨sl,e1⟩:=I.base.slot b o e n hb hx
   exact⟨sl,(hs.2 b (Nat.ne_of_lt (Nat.lt_of_lt_of_le (Heap.lt_size e) (I.ok.cab x c BY hc)))).trans e1⟩
  ·obtain⟨o',e1⟩:=I.base.there b o e hx
   exact⟨o',(hs.2 b (Nat.ne_of_lt (Nat.lt_of_lt_of_le (Heap.lt_size e) (I.ok.cab x c BY hc)))).trans e1⟩
  ·by_cases hj:j=i
   ·subst hj
    rw[hi] at e1;cases e1
    rw[List.getElem?_set_self Dk] at e2
    cases e2
    exact⟨u,r, .inr ⟨.inl hk,c,hc,xn⟩⟩
   ·rw[List.getElem?_set_ne (Ne.symm hj)] at e2
    obtain⟨u',r',q⟩:=hl j y v' e1 e2 e3
    refine⟨u',r',?_⟩
    rcases q with q | ⟨k,c',e,z'⟩
    ·exact .inl q
    ·refine .inr ⟨k,c',e,z'.sameBut hs ?_⟩
     rintro rfl
     exact hj (oM hN e1 (I.ok.inj _ _ _ e hc▸hi))
  ·by_cases Ba:c'=c
   ·subst Ba;exact⟨_,xn⟩
   ·obtain⟨w2,z2⟩:=I.cell y c' e
    exact⟨w2,z2.sameBut hs Ba⟩
  ·obtain⟨e,n,ne,nf,d⟩:=I.pin p hp
   refine⟨(hs.2 p.1 ?_).trans e,n,ne,nf,d⟩
   intro q
   rw[q,Dr] at e
   have q':oc=p.2:=Option.some.inj e
   exact d w' (by rw[←q'];exact B_)
theorem pk{M:Model}{A:Around}{E:Value→Shared→Prop}{i:Nat}{x:Str}{v:V}{u:Value}{Q:Unit→Shared→Prop}(I:Inv X pins σ H s)(hN:X.N.Nodup)(hi:X.N[i]? =some x)(hx:Loc X.env.scope x)(r:RelV v u)
 (h:∀s',Inv X pins (σ.set i (some v)) H s'→Q () s')(hf:X.fn x=true∨X.env.scope.names.lookup x=some .local:=by first | exact .inl rfl | exact .inr rfl | assumption):wpAny M A (storeName X.env x u) Q E s:=
 l_ I hN hi hx r (fun s' I' _=>h s' I') hf
theorem Inv.call'{s':Shared}{ch:List Addr}(I:Inv X pins σ H s)(ho:s'.os=s.os)(u:Un (jk X.stack) ch H H' s.heap s'.heap)(hok:HOk X.prog X.w H' s'.heap)(hg:AllBare s'.gens)
 (vp:∀b∈ch,(b∈X.ex∨X.s₀.heap.objs.size≤b)∧b≠X.env.locals∧(∀x c,X.env.cells.lookup x=some c→c≠b)∧∀p∈X.pn++pins,p.1≠b):Inv X pins σ H' s':=by
 obtain⟨h',g',d',t',o'⟩:=s'
 have e:o'=s.os:=ho
 subst e
 exact I.call (g':=g') (t':=t') (d':=d') u hok hg vp
end
abbrev XK:=Value→Option Addr→Hp→Prop
abbrev St:=List (Option V)
abbrev VK:=V→Hp→Prop
abbrev TE:=St→Hp→VK→Prop
abbrev TT:=St→Hp→(Bool→Hp→Prop)→Prop
abbrev TA:=St→Hp→(List V→Hp→Prop)→Prop
structure Ends where
 nx:St→Hp→Prop
 rt:VK
 bk:St→Hp→Prop:=fun _ _=>False
 ct:St→Hp→Prop:=fun _ _=>False
abbrev TS:=Ends→St→Hp→Prop
def EP(X:Cx)(pins:List (Addr×Obj))(σ:St)(Q:VK)(u:Value)(s':Shared):Prop:=∃v H',Inv X pins σ H' s'∧RelV v u∧Q v H'
def TP(X:Cx)(pins:List (Addr×Obj))(σ:St)(Q:Bool→Hp→Prop)(b:Bool)(s':Shared):Prop:=∃H',Inv X pins σ H' s'∧Q b H'
def AP(X:Cx)(pins:List (Addr×Obj))(σ:St)(Q:List V→Hp→Prop)(us:List Value)(s':Shared):Prop:=∃vs H',Inv X pins σ H' s'∧Vals vs us∧Q vs H'
def SP(X:Cx)(pins:List (Addr×Obj))(D:Ends)(f:Flow)(s':Shared):Prop:=
 match f with
 | .next=>∃σ' H',Inv X pins σ' H' s'∧D.nx σ' H'
 | .brk=>∃σ' H',Inv X pins σ' H' s'∧D.bk σ' H'
 | .cont=>∃σ' H',Inv X pins σ' H' s'∧D.ct σ' H'
 | .ret u=>∃v σ' H',Inv X pins σ' H' s'∧RelV v u∧D.rt v H'
def PE(X:Cx)(e:Expr)(t:TE):Prop:=
 ∀(pins:List (Addr×Obj)) (s:Shared) (σ:St) (H:Hp) (Q:VK),Inv X pins σ H s→t σ H Q→wpAny (model X.prog X.w) X.A (eval e X.env) (EP X pins σ Q) X.xe s
def PT(X:Cx)(e:Expr)(t:TT):Prop:=
 ∀(pins:List (Addr×Obj)) (s:Shared) (σ:St) (H:Hp) (Q:Bool→Hp→Prop),Inv X pins σ H s→t σ H Q→wpAny (model X.prog X.w) X.A (isTrue e X.env (eval e X.env)) (TP X pins σ Q) X.xe s
def PW(X:Cx)(e:Expr)(t:TT):Prop:=
 ∀(whole:Sem Value) (pins:List (Addr×Obj)) (s:Shared) (σ:St) (H:Hp) (Q:Bool→Hp→Prop),Inv X pins σ H s→t σ H Q→wpAny (model X.prog X.w) X.A (isTrue e X.env whole) (TP X pins σ Q) X.xe s
theorem PW.pt{X:Cx}{e:Expr}{t:TT}(h:PW X e t):PT X e t:=h _
def PA(X:Cx)(es:List Expr)(t:TA):Prop:=
 ∀(pos:Pos) (pins:List (Addr×Obj)) (s:Shared) (σ:St) (H:Hp) (Q:List V→Hp→Prop),Inv X pins σ H s→t σ H Q→wpAny (model X.prog X.w) X.A (spliced (backTo pos (starEach es X.env))) (AP X pins σ Q) X.xe s
def PS(X:Cx)(st:Stmt)(t:TS):Prop:=
 ∀(pins:List (Addr×Obj)) (s:Shared) (σ:St) (H:Hp) (D:Ends),Inv X pins σ H s→t D σ H→wpAny (model X.prog X.w) X.A (exec st X.env) (SP X pins D) X.xe s
def PSs(X:Cx)(st:List Stmt)(t:TS):Prop:=
 ∀(pins:List (Addr×Obj)) (s:Shared) (σ:St) (H:Hp) (D:Ends),Inv X pins σ H s→t D σ H→wpAny (model X.prog X.w) X.A (execs st X.env) (SP X pins D) X.xe s
theorem bC{α:Type}{t:Sem α}{Q Q':α→Shared→Prop}{M:Model}{A:Around}{E:Value→Shared→Prop}{s:Shared}(h:wpAny M A t Q E s)(hQ:∀a s,Q a s→Q' a s):wpAny M A t Q' E s:=wpAny_mono h hQ fun _ _ x=>x
section
variable{X:Cx}
theorem bin{a b:Expr}{ta tb:TE}(ha:PE X a ta)(hb:PE X b tb){pins:List (Addr×Obj)}{s:Shared}{σ:St}{H:Hp}{R:V→V→Hp→Prop}(I:Inv X pins σ H s)(h:ta σ H fun x H1=>tb σ H1 fun y H2=>R x y H2)
 {α:Type}{Q:α→Shared→Prop}{f:Value→Value→Sem α}
 (hf:∀v u s2 x y H2,Inv X pins σ H2 s2→RelV x v→RelV y u→R x y H2→wpAny (model X.prog X.w) X.A (f v u) Q X.xe s2):
 wpAny (model X.prog X.w) X.A (eval a X.env) (fun v s₁=>wpAny (model X.prog X.w) X.A (eval b X.env) (fun u s₂=>wpAny (model X.prog X.w) X.A (f v u) Q X.xe s₂) X.xe s₁) X.xe s:=by
 refine bC (ha pins s σ H _ I h) fun v s1 ⟨x,H1,I1,r1,q1⟩=>?_
 refine bC (hb pins s1 σ H1 _ I1 q1) fun u s2 ⟨y,H2,I2,r2,q2⟩=>?_
 exact hf v u s2 x y H2 I2 r1 r2 q2
def k6(i:Nat):TE:=fun σ H Q=>∃v,σ[i]? =some (some v)∧Q v H
def tC(v:V):TE:=fun _ H Q=>Q v H
theorem y0{i:Nat}{x:Str}{pos:Pos}(hN:X.N[i]? =some x)(hv:Bz X.env.scope x)(hd:(x==("__debug__":Str))=false:=by decide)(sV:(x==("__classdict__":Str))=false:=by decide):PE X (.Name x pos) (k6 i):=by
 intro pins s σ H Q I h
 obtain⟨v,e,h⟩:=h
 obtain⟨m,hn,hl⟩:=I.loc
 obtain⟨u,r,l⟩:=hl i x v hN e hv
 have fin:EP X pins σ Q u s:=⟨v,H,I,r,h⟩
 rcases l with⟨hk,hm⟩ | ⟨hk,c,hc,xp⟩
 ·exact wpAny_Name (wpAny_loadName_local I.ok.kind hk hn hm fin) hd
 ·rcases hk with hk | hk
  ·exact wpAny_Name (wpAny_loadName_cell I.ok.kind hk hc xp fin) hd
  ·exact wpAny_Name (wpAny_loadName_free I.ok.kind hk hc xp fin sV) hd
theorem yV{i j pos}:PE X (.Constant (.int i) j pos) (tC (.int i)):=fun _ _ _ H _ I h=>wpAny_Constant_int ⟨.int i,H,I.tok _,⟨_,rfl⟩,h⟩
theorem Av{b j pos}:PE X (.Constant (.bool b) j pos) (tC (.bl b)):=fun _ _ _ H _ I h=>Constant_bool ⟨.bl b,H,I,rfl,h⟩
theorem yY{x j pos}:PE X (.Constant (.str x) j pos) (tC (.str x)):=fun _ _ _ H _ I h=>Calls.Constant_str ⟨.str x,H,I.tok _,⟨_,rfl⟩,h⟩
def Gl(X:Cx)(x:Str):Prop:=X.env.kindOf x=some .globalImplicit
theorem qY{E:Value→Shared→Prop}{pins:List (Addr×Obj)}{s:Shared}{σ:St}{H:Hp}{x:Str}{u:Value}{pos:Pos}{Q:Value→Shared→Prop}(I:Inv X pins σ H s)(hg:Gl X x)(hm:X.mg x=some u)(h:Q u s)
 (hd:(x==("__debug__":Str))=false:=by decide):wpAny (model X.prog X.w) X.A (eval (.Name x pos) X.env) Q E s:=
 Calls.Name_function_global I.ok.kind hg (Calls.loadGlobal_global (by rw[I.ok.glob];exact I.mod.glob.keeps I.bk) hm h) hd
theorem mH{E:Value→Shared→Prop}{pins:List (Addr×Obj)}{s:Shared}{σ:St}{H:Hp}{x:Str}{u:Value}{pos:Pos}{Q:Value→Shared→Prop}(I:Inv X pins σ H s)(hg:Gl X x)(hm:X.mg x=none)(hv:bootBuiltins x=some u)(h:Q u s)
 (hn:x≠"__name__":=by decide)(hd:(x==("__debug__":Str))=false:=by decide):wpAny (model X.prog X.w) X.A (eval (.Name x pos) X.env) Q E s:=by
 obtain⟨mb,h1,h2⟩:=I.mod.blt
 exact Calls.Name_function_global I.ok.kind hg (Calls.loadGlobal_builtin (by rw[I.ok.glob];exact I.mod.glob.keeps I.bk) hm (by rw[I.ok.blt];exact h1.keeps I.bk) ((h2 x hn).trans hv) h) hd
theorem wC{x:Str}{v:V}{u:Value}{pos:Pos}(hg:Gl X x)(hm:X.mg x=some u)(r:RelV v u)(hd:(x==("__debug__":Str))=false:=by decide):PE X (.Name x pos) (tC v):=
 fun _ _ _ H _ I h=>qY I hg hm ⟨v,H,I,r,h⟩ hd
theorem wz{x:Str}{v:V}{u:Value}{pos:Pos}(hg:Gl X x)(hm:X.mg x=none)(hv:bootBuiltins x=some u)(r:RelV v u)(hn:x≠"__name__":=by decide)(hd:(x==("__debug__":Str))=false:=by decide):PE X (.Name x pos) (tC v):=
 fun _ _ _ H _ I h=>mH I hg hm hv ⟨v,H,I,r,h⟩ hn hd
variable{a b:Expr}{ta tb:TE}{pos:Pos}
def PC(X:Cx)(op:CmpOp)(a b:Expr)(t:TE):Prop:=
 ∀(pins:List (Addr×Obj)) (s:Shared) (σ:St) (H:Hp) (Q:VK),Inv X pins σ H s→t σ H Q→
  wpAny (model X.prog X.w) X.A (eval a X.env) (fun v s₁=>wpAny (model X.prog X.w) X.A (eval b X.env) (fun u s₂=>wpAny (model X.prog X.w) X.A (compareOp op v u) (EP X pins σ Q) X.xe s₂) X.xe s₁) X.xe s
theorem uk(b:Expr){op:CmpOp}(h:op≠ .In)(h2:op≠ .NotIn):behindInMarks op b=false:=by
 have e1:(op==CmpOp.In)=false:=by cases op<;>first | rfl | exact absurd rfl h
 have e2:(op==CmpOp.NotIn)=false:=by cases op<;>first | rfl | exact absurd rfl h2
 cases b<;>simp[behindInMarks,e1,e2]
theorem yU{op:CmpOp}{t:TE}(h:PC X op a b t)(h1:behindInMarks op b=false:=by first | exact uk _ (by decide) (by decide) | rfl):PE X (.Compare a [op] [b] pos) t:=fun pins s σ H Q I hw=>wpAny_Compare1 (h pins s σ H Q I hw) h1
variable{tA eu:TT}{rest:List Expr}
def EY(t u:TT):TT:=fun σ H Q=>t σ H fun c H1=>if c=true then Q true H1 else u σ H1 Q
def CT(t:TT):TT:=fun σ H Q=>t σ H fun c H1=>Q (!c) H1
theorem zb(ha:PT X a tA):PW X (.BoolOp .Or [a] pos) tA:=by
 intro wh pins s σ H Q I h
 refine isTrue_or (bC (ha pins s σ H Q I h) fun c s1 e=>?_)
 cases c with
 |false=>exact isTrue_or_nil e
 |true=>exact e
theorem AB(ha:PT X a tA)(hb:PW X (.BoolOp .Or (b::rest) pos) eu):PW X (.BoolOp .Or (a::b::rest) pos) (EY tA eu):=by
 intro wh pins s σ H Q I h
 refine isTrue_or (bC (ha pins s σ H _ I h) fun c s1 ⟨H1,I1,q1⟩=>?_)
 cases c with
 |true=>exact⟨H1,I1,q1⟩
 |false=>exact hb wh pins s1 σ H1 Q I1 q1
theorem y_(ha:PT X a tA):PT X (.UnaryOp .Not a pos) (CT tA):=by
 intro pins s σ H Q I h
 exact isTrue_not (ha pins s σ H (fun c H1=>Q (!c) H1) I h)
def AR(ta tb:TE):TE:=fun σ H Q=>ta σ H fun x H1=>∃c,x= .bl c∧if c=true then tb σ H1 Q else Q (.bl false) H1
def AV(ta:TE):TE:=fun σ H Q=>ta σ H fun x H1=>∃c,x= .bl c∧Q (.bl (!c)) H1
theorem yX{op}{t:TE}(h:PE X a t):PE X (.BoolOp op [a] pos) t:=fun pins s σ H Q I hw=>BoolOp_one (h pins s σ H Q I hw)
theorem yT(ha:PE X a ta)(hb:PE X (.BoolOp .And (b::rest) pos) tb):PE X (.BoolOp .And (a::b::rest) pos) (AR ta tb):=by
 intro pins s σ H Q I h
 refine BoolOp_and (bC (ha pins s σ H _ I h) fun v s1 ⟨x,H1,I1,r1,q1⟩=>?_)
 obtain⟨c,rfl,q1⟩:=q1
 cases r1
 refine wpAny_truthy_bool ?_
 cases c with
 |true=>exact hb pins s1 σ H1 Q I1 q1
 |false=>exact⟨.bl false,H1,I1,rfl,q1⟩
theorem yW(ha:PE X a ta):PE X (.UnaryOp .Not a pos) (AV ta):=by
 intro pins s σ H Q I h
 refine UnaryOp_ (bC (ha pins s σ H _ I h) fun v s1 ⟨x,H1,I1,r1,q1⟩=>?_)
 obtain⟨c,rfl,q1⟩:=q1
 cases r1
 exact not_of (wpAny_truthy_bool ⟨.bl (!c),H1,I1,rfl,q1⟩)
end
def SqL(K:W.Frag)(H:Hp)(a:Addr)(xs:List V):Prop:=
 Rd H a (.lst xs)∨
  ∃(o:Obj) (aH:Array Value) (n:Nat),K.lookup a=some o∧o.cls= .type "list"∧o.dict=none∧o.data= .seq aH n∧aH.size≤sizeLine∧Vals xs aH.toList
def SqT(K:W.Frag)(H:Hp)(a:Addr)(xs:List V):Prop:=
 Rd H a (.tup xs)∨
  ∃(o:Obj) (aH:Array Value) (n:Nat),K.lookup a=some o∧o.cls= .type "tuple"∧o.data= .seq aH n∧aH.size≤sizeLine∧Vals xs aH.toList
def BA:Value→Option V
 | .none=>some .non
 | .bool b=>some (.bl b)
 | .int i _=>some (.int i)
 | .str x _=>some (.str x)
 | .bytes b _=>some (.byt b)
 | .float b _=>some (.flt b)
 | .ref a=>some (.ref a)
 | .type n=>some (.ty n)
 |_=>none
theorem RelV.abs{x:V}{u:Value}(r:RelV x u):BA u=some x:=by
 cases x with
 |non=>cases r;rfl
 |bl _=>cases r;rfl
 |int _=>obtain⟨t,rfl⟩:=r;rfl
 |str _=>obtain⟨t,rfl⟩:=r;rfl
 |byt _=>obtain⟨t,rfl⟩:=r;rfl
 |flt _=>obtain⟨t,rfl⟩:=r;rfl
 |ref _=>cases r;rfl
 |ty _=>cases r;rfl
theorem RelV.inj{x y:V}{u:Value}(r:RelV x u)(q:RelV y u):x=y:=Option.some.inj (r.abs.symm.trans q.abs)
theorem Vals.inj:∀{xs ys:List V}{us:List Value},Vals xs us→Vals ys us→xs=ys
 |_,_,_, .nil, .nil=>rfl
 |_,_,_, .cons r t, .cons r' t'=>by rw[r.inj r',Vals.inj t t']
section
variable{X:Cx}{pins:List (Addr×Obj)}{σ:St}{H:Hp}{s:Shared}{a:Addr}{xs ys:List V}
theorem SqL.of{K:W.Frag}(h:H a=some (.lst xs)):SqL K H a xs:= .inl (.inl h)
theorem SqT.of{K:W.Frag}(h:H a=some (.tup xs)):SqT K H a xs:= .inl (.inl h)
theorem Inv.list(I:Inv X pins σ H s)(h:SqL X.K H a xs):∃aH:List Value,Vals xs aH∧PlainL s.heap a aH.toArray∧xs.length≤sizeLine:=by
 rcases h with h | ⟨o,aH,n,hk,hc,hd,hs,hz,r⟩
 ·obtain⟨z,aH,n,r,e⟩:=h.ok I.hok
  exact⟨aH,r,⟨_,n,e,rfl,rfl,rfl⟩,z⟩
 ·refine⟨aH.toList,r,⟨o,n,I.kIn a o hk,hc,hd,by simpa using hs⟩,?_⟩
  have e:=r.length
  simp only[Array.length_toList] at e
  omega
theorem Inv.tuple(I:Inv X pins σ H s)(h:SqT X.K H a xs):∃aH:List Value,Vals xs aH∧IsTup s.heap a aH.toArray∧xs.length≤sizeLine:=by
 rcases h with h | ⟨o,aH,n,hk,hc,hs,hz,r⟩
 ·obtain⟨z,aH,r,p⟩:=h.ok I.hok
  exact⟨aH,r,p,z⟩
 ·refine⟨aH.toList,r,⟨o,I.kIn a o hk,hc,n,by simpa using hs⟩,?_⟩
  have e:=r.length
  simp only[Array.length_toList] at e
  omega
theorem Inv.list_inj(I:Inv X pins σ H s)(h:SqL X.K H a xs)(h':SqL X.K H a ys):xs=ys:=by
 obtain⟨aH,r,⟨o,n,e,_,_,d⟩,_⟩:=I.list h
 obtain⟨its',r',⟨o',n',e',_,_,d'⟩,_⟩:=I.list h'
 rw[e] at e';cases e'
 rw[d] at d'
 injection d' with d1 _
 have:aH=its':=by simpa using congrArg Array.toList d1
 subst this
 exact r.inj r'
theorem Inv.tuple_inj(I:Inv X pins σ H s)(h:SqT X.K H a xs)(h':SqT X.K H a ys):xs=ys:=by
 obtain⟨aH,r,⟨o,e,_,n,d⟩,_⟩:=I.tuple h
 obtain⟨its',r',⟨o',e',_,n',d'⟩,_⟩:=I.tuple h'
 rw[e] at e';cases e'
 rw[d] at d'
 injection d' with d1 _
 have:aH=its':=by simpa using congrArg Array.toList d1
 subst this
 exact r.inj r'
end
abbrev Cx.wish(X:Cx)(E:Value→Shared→Prop):Cx:={X with xe:=E}
abbrev Cx.nox(X:Cx):Cx:=X.wish fun _ _=>False
theorem Cx.Ok.wish{X:Cx}(ok:X.Ok)(E:Value→Shared→Prop):(X.wish E).Ok:=
 ⟨ok.mod,ok.kind,ok.glob,ok.blt,ok.above,ok.inj,ok.has,ok.cab,ok.hd,ok.frames,ok.stk,ok.exf,ok.bs,ok.bsz,ok.noex,ok.exfs,ok.funs,ok.frf⟩
theorem Cx.Ok.unwish{X:Cx}{E:Value→Shared→Prop}(ok:(X.wish E).Ok):X.Ok:=
 ⟨ok.mod,ok.kind,ok.glob,ok.blt,ok.above,ok.inj,ok.has,ok.cab,ok.hd,ok.frames,ok.stk,ok.exf,ok.bs,ok.bsz,ok.noex,ok.exfs,ok.funs,ok.frf⟩
section
variable{X:Cx}{pins:List (Addr×Obj)}{σ:St}{H:Hp}{s:Shared}{E:Value→Shared→Prop}
theorem Inv.wish(I:Inv X pins σ H s)(E:Value→Shared→Prop):Inv (X.wish E) pins σ H s:=⟨I.ok.wish E,I.os,I.bare,I.base,I.loc,I.cell,I.free,I.freeC,I.pin,I.hok,I.len⟩
theorem Inv.unwish(I:Inv (X.wish E) pins σ H s):Inv X pins σ H s:=⟨I.ok.unwish,I.os,I.bare,I.base,I.loc,I.cell,I.free,I.freeC,I.pin,I.hok,I.len⟩
theorem SP.unwish{D:Ends}{f:Flow}{s':Shared}(h:SP (X.wish E) pins D f s'):SP X pins D f s':=by
 cases f with
 |next=>obtain⟨σ',H',I,q⟩:=h;exact⟨σ',H',I.unwish,q⟩
 |brk=>obtain⟨σ',H',I,q⟩:=h;exact⟨σ',H',I.unwish,q⟩
 |cont=>obtain⟨σ',H',I,q⟩:=h;exact⟨σ',H',I.unwish,q⟩
 |ret u=>obtain⟨v,σ',H',I,r,q⟩:=h;exact⟨v,σ',H',I.unwish,r,q⟩
end
section
variable{X:Cx}{st:Stmt}{rest:List Stmt}{t u:TS}{e:Expr}{te:TE}{pos:Pos}
def AU:TS:=fun D σ H=>D.nx σ H
def CV(t u:TS):TS:=fun D σ H=>t {D with nx:=u D} σ H
theorem wL:PSs X [] AU:=fun _ _ σ H _ I h=>wpAny_execs_nil ⟨σ,H,I,h⟩
theorem uR(h1:PS X st t)(h2:PSs X rest u):PSs X (st::rest) (CV t u):=by
 intro pins s σ H D I h
 refine wpAny_execs_cons (bC (h1 pins s σ H {D with nx:=u D} I h) fun f s1 q=>?_)
 cases f with
 |next=>
  obtain⟨σ',H',I',q⟩:=q
  exact h2 pins s1 σ' H' D I' q
 |ret v=>exact q
 |brk=>exact q
 |cont=>exact q
theorem wM(h1:PS X st t):PSs X [st] t:=by
 intro pins s σ H D I h
 refine wpAny_execs_cons (bC (h1 pins s σ H D I h) fun f s1 q=>?_)
 cases f with
 |next=>exact wpAny_execs_nil q
 |ret v=>exact q
 |brk=>exact q
 |cont=>exact q
theorem Inv.quiet{pins:List (Addr×Obj)}{σ:St}{H:Hp}{s:Shared}(I:Inv X pins σ H s):interactive X.env=false:=by simp[interactive,I.ok.kind]
def vj(te:TE):TS:=fun D σ H=>te σ H fun _ H1=>D.nx σ H1
theorem mY(he:PE X e te)(hs:swapsWith e none pos.line X.env=pure false:=by rfl):PS X (.Expr e pos) (vj te):=by
 intro pins s σ H D I h
 exact wpAny_Expr_any (bC (he pins s σ H _ I h) fun v s1 ⟨x,H1,I1,r1,q1⟩=>⟨σ,H1,I1,q1⟩) I.quiet hs
def CU(te:TE):TS:=fun D σ H=>te σ H D.rt
theorem y8(he:PE X e te):PS X (.Return (some e) pos) (CU te):=by
 intro pins s σ H D I h
 exact wpAny_Return_some (bC (he pins s σ H _ I h) fun v s1 ⟨x,H1,I1,r1,q1⟩=>⟨x,σ,H1,I1,r1,q1⟩)
def CQ(c:TT)(t u:TS):TS:=fun D σ H=>c σ H fun b H1=>if b=true then t D σ H1 else u D σ H1
theorem Az{c:Expr}{a b:List Stmt}{tc:TT}(hc:PT X c tc)(ha:PSs X a t)(hb:PSs X b u):PS X (.If c a b pos) (CQ tc t u):=by
 intro pins s σ H D I h
 refine wpAny_If (bC (hc pins s σ H _ I h) fun d s1 ⟨H1,I1,q1⟩=>?_)
 cases d with
 |true=>exact ha pins s1 σ H1 D I1 q1
 |false=>exact hb pins s1 σ H1 D I1 q1
end
abbrev TG:=V→St→Hp→(St→Hp→Prop)→Prop
abbrev xc:=List V→St→Hp→(St→Hp→Prop)→Prop
def PG(X:Cx)(target:Expr)(t:TG):Prop:=
 ∀(pins:List (Addr×Obj)) (s:Shared) (σ:St) (H:Hp) (v:V) (u:Value) (Q:St→Hp→Prop),Inv X pins σ H s→RelV v u→t v σ H Q→
  wpAny (model X.prog X.w) X.A (assign target X.env u) (fun _ s'=>∃σ' H',Inv X pins σ' H' s'∧Q σ' H') X.xe s
def A6(X:Cx)(ts:List Expr)(t:xc):Prop:=
 ∀(pins:List (Addr×Obj)) (s:Shared) (σ:St) (H:Hp) (vs:List V) (us:List Value) (Q:St→Hp→Prop),Inv X pins σ H s→Vals vs us→t vs σ H Q→
  wpAny (model X.prog X.w) X.A (assignInOrder ((assignEach ts X.env).map (·.2)) us) (fun _ s'=>∃σ' H',Inv X pins σ' H' s'∧Q σ' H') X.xe s
abbrev Bw:=V→V→V→Hp→(Hp→Prop)→Prop
section
variable{X:Cx}{pos:Pos}
def tO(i:Nat):TG:=fun v σ H Q=>Q (σ.set i (some v)) H
theorem b9{i:Nat}{x:Str}(hN:X.N.Nodup)(hi:X.N[i]? =some x)(hx:Loc X.env.scope x)(hf:X.fn x=true∨X.env.scope.names.lookup x=some .local:=by first | exact .inl rfl | exact .inr rfl | assumption):PG X (.Name x pos) (tO i):=by
 intro pins s σ H v u Q I r h
 exact wpAny_assign_Name (pk I hN hi hx r (fun s' I'=>⟨_,H,I',h⟩) hf)
def z0:xc:=fun vs σ H Q=>vs=[]∧Q σ H
def xm(t:TG)(u:xc):xc:=fun vs σ H Q=>∃v r,vs=v::r∧t v σ H fun σ' H'=>u r σ' H' Q
theorem wD:A6 X [] z0:=by
 intro pins s σ H vs us Q I r h
 obtain⟨e,h⟩:=h
 subst e
 cases r
 exact assignInOrder_nil ⟨σ,H,I,h⟩
theorem o6{e:Expr}{es:List Expr}{t:TG}{u:xc}(h1:PG X e t)(h2:A6 X es u)
 (hs:(assignEach (e::es) X.env).map (·.2)=assign e X.env::(assignEach es X.env).map (·.2):=by rfl):A6 X (e::es) (xm t u):=by
 intro pins s σ H vs us Q I r h
 obtain⟨v,vr,e1,h⟩:=h
 subst e1
 cases r with
 |cons r rr=>
  rw[hs]
  refine assignInOrder_cons (bC (h1 pins s σ H _ _ _ I r h) fun _ s1 ⟨σ1,H1,I1,q1⟩=>?_)
  exact h2 pins s1 σ1 H1 _ _ Q I1 rr q1
def z3(K:W.Frag)(n:Nat)(t:xc):TG:=fun v σ H Q=>∃a xs,v= .ref a∧SqT K H a xs∧xs.length=n∧t xs σ H Q
theorem y1{es:List Expr}{k:Nat}{t:xc}{n:Nat}(hc:X.calm=true)(h:A6 X es t)
 (hn:(assignEach es X.env).length=n:=by rfl)(rT:(assignEach es X.env).findIdx? (·.1)=none:=by rfl):PG X (.Tuple es k pos) (z3 X.K n t):=by
 intro pins s σ H v u Q I r hw
 obtain⟨a,xs,e1,hq,hl,hw⟩:=hw
 subst e1
 cases r
 obtain⟨aH,rv,ht,hz⟩:=I.tuple hq
 refine assign_Tuple_tuple (I.ok.hd hc) ht (by simp[hn,←hl,rv.length]) rT fun h' hx=>?_
 have I1:Inv X pins σ H {s with heap:=h'}:=I.kept (t':=s.toks) fun b o e=>hx b o (Nat.ne_of_lt (Heap.lt_size e)) e
 exact h pins _ σ H xs _ Q I1 (by simpa using rv) hw
def vG(to ti:TE)(t:Bw):TG:=fun v σ H Q=>to σ H fun o H1=>ti σ H1 fun i H2=>t o i v H2 fun H3=>Q σ H3
def CK(te:TE)(g:TG):TS:=fun D σ H=>te σ H fun x H1=>g x σ H1 D.nx
theorem qt{tg e:Expr}{te:TE}{g:TG}(he:PE X e te)(hg:PG X tg g)(hs:swapsWithSole [tg] e pos.line X.env=pure false:=by rfl)(hw:swappedStores [tg] e X.env=pure none:=by rfl)
 (h1:(assignEach [tg] X.env).map (·.2)=[assign tg X.env]:=by rfl):PS X (.Assign [tg] e pos) (CK te g):=by
 intro pins s σ H D I h
 refine wpAny_Assign_stores (bC (he pins s σ H _ I h) fun v s1 ⟨x,H1,I1,r1,q1⟩=>?_) hs hw
 rw[h1]
 exact bC (hg pins s1 σ H1 x v _ I1 r1 q1) fun _ s2 q=>q
end
section
variable{X:Cx}{pos:Pos}
end
structure It where
 go:Nat→Hp→Prop
 yld:Nat→Hp→V→Hp→Prop
 stop:Nat→Hp→Prop
def nR(X:Cx)(pins:List (Addr×Obj))(H:Hp)(b:Addr):Prop:=
 H b=none∧b≠X.env.locals∧b∉X.fs∧(b∈X.ex∨X.s₀.heap.objs.size≤b)∧(∀x c,X.env.cells.lookup x=some c→c≠b)∧∀p∈X.pn++pins,p.1≠b
theorem Inv.fpOk{X:Cx}{pins:List (Addr×Obj)}{σ:St}{H H':Hp}{s:Shared}{b:Addr}(I:Inv X pins σ H s)(hb:s.heap.objs.size≤b)(hn:H' b=none):nR X pins H' b:=by
 refine⟨hn,Nat.ne_of_gt (Nat.lt_of_lt_of_le I.lt hb),I.nofs hb, .inr (Nat.le_trans I.sz hb),fun x c e z=>?_,fun p hp z=>?_⟩
 ·obtain⟨v,q⟩:=I.cell x c e
  exact absurd (Nat.lt_of_lt_of_le q.lt (by rw[z];exact hb)) (Nat.lt_irrefl _)
 ·exact absurd (Nat.lt_of_lt_of_le (Heap.lt_size (I.pin p hp).1) (by rw[z];exact hb)) (Nat.lt_irrefl _)
structure Turn (P:Program) (w:World) (K:W.Frag) (tg:Expr) (J:It) (fp:List Addr) (it:Addr) (tn:Nat→Heap→Prop):Prop where
 mem:it∈fp
 obj:∀i h,tn i h→∀b∈fp,∃o,h.get? b=some o∧∀v,o.data≠ .cell v
 keep:∀i h h',tn i h→(∀b∈fp,∀o,h.get? b=some o→h'.get? b=some o)→tn i h'
 item:∀(X:Cx),X.prog=P→X.w=w→X.K=K→X.calm=true→∀(i:Nat) (pins:List (Addr×Obj)) (s:Shared) (σ:St) (H:Hp) (E:Value→Shared→Prop),Inv X pins σ H s→(∀b∈fp,nR X pins H b)→tn i s.heap→J.go i H→
  wpAny (model P w) X.A (pyNext (.ref it)) (fun r s1=>∃u,r=some u∧
   wpAny (model P w) X.A (letOwnedTupleGo tg (.ref it) u) (fun _ s2=>∃x H',Inv X pins σ H' s2∧RelV x u∧J.yld i H x H'∧tn (i+1) s2.heap∧∀b∈fp,H' b=none) E s1) E s
 done:∀(X:Cx),X.prog=P→X.w=w→X.K=K→X.calm=true→∀(i:Nat) (pins:List (Addr×Obj)) (s:Shared) (σ:St) (H:Hp) (E:Value→Shared→Prop),Inv X pins σ H s→(∀b∈fp,nR X pins H b)→tn i s.heap→J.stop i H→
  wpAny (model P w) X.A (pyNext (.ref it)) (fun r s1=>r=none∧Inv X pins σ H s1) E s
 self:∀(A:Around) (i:Nat) (s:Shared) (Q:Value→Shared→Prop) (E:Value→Shared→Prop),tn i s.heap→Q (.ref it) s→wpAny (model P w) A (pyIter (.ref it)) Q E s
abbrev TI:=St→Hp→(It→Hp→Prop)→Prop
def C2(X:Cx)(pins:List (Addr×Obj))(σ:St)(tg:Expr)(R:It→Hp→Prop)(Dz:Value)(s2:Shared):Prop:=
 ∃(it:Addr) (fp:List Addr) (tn:Nat→Heap→Prop) (J:It) (H':Hp),Dz= .ref it∧Inv X pins σ H' s2∧Turn X.prog X.w X.K tg J fp it tn∧tn 0 s2.heap∧(∀b∈fp,nR X pins H' b)∧R J H'
def PI(X:Cx)(tg iter:Expr)(wi:TI):Prop:=
 ∀(pins:List (Addr×Obj)) (s:Shared) (σ:St) (H:Hp) (R:It→Hp→Prop),Inv X pins σ H s→wi σ H R→
  wpAny (model X.prog X.w) X.A (eval iter X.env) (fun v s1=>wpAny (model X.prog X.w) X.A (pyIter v) (C2 X pins σ tg R) X.xe s1) X.xe s
theorem oy{M:Model}{A:Around}{E:Value→Shared→Prop}{s:Shared}{tg:Expr}{it:Addr}{u:Value}{o:Obj}{n:String}{vs:Array Value}{Q:Unit→Shared→Prop}(ho:s.heap.get? it=some o)(hc:o.cls= .type n)(hd:o.data= .fields vs)
 (hn:["enumerate","zip","dict_itemiterator","dict_reverseitemiterator","odict_iterator","itertools.zip_longest","itertools.pairwise"].contains n=false)(hQ:Q () s):wpAny M A (letOwnedTupleGo tg (.ref it) u) Q E s:=by
 unfold letOwnedTupleGo
 cases tg<;>first
  |exact wpAny_pure hQ
  |(cases u<;>first
    |exact wpAny_pure hQ
    |(refine wpAny_bind (wpAny_load ho ?_)
      rw[hc,hd]
      show wpAny M A (if (["enumerate","zip","dict_itemiterator","dict_reverseitemiterator","odict_iterator","itertools.zip_longest","itertools.pairwise"].contains n&&vs[0]? ==some (rawInt _))=true then _ else _) Q E s
      rw[if_neg (by intro h;rw[hn,Bool.false_and] at h;cases h)]
      exact wpAny_pure hQ))
def Bs(K:W.Frag)(a:Addr):It:=
 ⟨fun i H=>∃xs x,SqL K H a xs∧xs[i]? =some x,fun i H x H'=>H'=H∧∀xs,SqL K H a xs→xs[i]? =some x,fun i H=>∃xs,SqL K H a xs∧xs.length≤i⟩
def Bt(K:W.Frag)(a:Addr):It:=
 ⟨fun i H=>∃xs x,SqT K H a xs∧xs[i]? =some x,fun i H x H'=>H'=H∧∀xs,SqT K H a xs→xs[i]? =some x,fun i H=>∃xs,SqT K H a xs∧xs.length≤i⟩
def A2(lo:Int)(n:Nat):It:=⟨fun i _=>i<n,fun i H x H'=>H'=H∧x= .int (lo+i),fun i _=>n≤i⟩
theorem sM{P:Program}{w:World}{K:W.Frag}{tg:Expr}(a it:Addr):Turn P w K tg (Bs K a) [it] it (fun i h=>h.IsListIter it a i) where
 mem:=by simp
 obj:=fun i h st b hb=>by
  have e:b=it:=by simpa using hb
  subst e
  obtain⟨o,e,c,d⟩:=st
  exact⟨o,e,fun v z=>by rw[d] at z;cases z⟩
 keep:=fun i h h' st k=>st.at fun o e=>k it (by simp) o e
 item:=by
  intro X hP hw hK hc i pins s σ H E I hf st hg
  subst hP hw hK
  obtain⟨xs,x,hq,hx⟩:=hg
  obtain⟨aH,rv,p,hz⟩:=I.list hq
  obtain⟨u,hu,ru⟩:=rv.get hx
  obtain⟨f0,f1,f2,f3,f4,f5⟩:=hf it (by simp)
  refine wpAny_pyNext_list_item st p.isList (x:=u) (by simpa using hu) fun h' pj sb=>?_
  have I1:Inv X pins σ H {s with heap:=h'}:=I.turned (t':=s.toks) (fun b o hb e=>(sb.2 b hb).trans e) f0 f1 f3 f4 f5
  obtain⟨o,e,c,d⟩:=id pj
  exact⟨u,rfl,oy (s:={s with heap:=h'}) e c d (by decide) ⟨x,H,I1,ru,⟨rfl,fun ys hy=>by rw[I.list_inj hy hq];exact hx⟩,pj,fun b hb=>(hf b hb).1⟩⟩
 done:=by
  intro X hP hw hK hc i pins s σ H E I hf st hg
  subst hP hw hK
  obtain⟨xs,hq,hx⟩:=hg
  obtain⟨aH,rv,p,hz⟩:=I.list hq
  obtain⟨f0,f1,f2,f3,f4,f5⟩:=hf it (by simp)
  have hl:=rv.length
  exact wpAny_pyNext_list_end (I.ok.hd hc) st p.isList (by simp;omega) fun h' eb=>⟨rfl,I.turned (t':=s.toks) (fun b o hb e=>eb b o hb e) f0 f1 f3 f4 f5⟩
 self:=fun _ _ _ _ _ st h=>wpAny_pyIter_listiter st h
theorem qF{P:Program}{w:World}{K:W.Frag}{tg:Expr}(a it:Addr):Turn P w K tg (Bt K a) [it] it (fun i h=>h.IsTupleIter it a i) where
 mem:=by simp
 obj:=fun i h st b hb=>by
  have e:b=it:=by simpa using hb
  subst e
  obtain⟨o,e,c,d⟩:=st
  exact⟨o,e,fun v z=>by rw[d] at z;cases z⟩
 keep:=fun i h h' st k=>st.at fun o e=>k it (by simp) o e
 item:=by
  intro X hP hw hK hc i pins s σ H E I hf st hg
  subst hP hw hK
  obtain⟨xs,x,hq,hx⟩:=hg
  obtain⟨aH,rv,p,hz⟩:=I.tuple hq
  obtain⟨u,hu,ru⟩:=rv.get hx
  obtain⟨f0,f1,f2,f3,f4,f5⟩:=hf it (by simp)
  refine wpAny_pyNext_tuple_item st (show s.heap.IsTuple a aH.toArray from p) (x:=u) (by simpa using hu) fun h' pj sb=>?_
  have I1:Inv X pins σ H {s with heap:=h'}:=I.turned (t':=s.toks) (fun b o hb e=>(sb.2 b hb).trans e) f0 f1 f3 f4 f5
  obtain⟨o,e,c,d⟩:=id pj
  exact⟨u,rfl,oy (s:={s with heap:=h'}) e c d (by decide) ⟨x,H,I1,ru,⟨rfl,fun ys hy=>by rw[I.tuple_inj hy hq];exact hx⟩,pj,fun b hb=>(hf b hb).1⟩⟩
 done:=by
  intro X hP hw hK hc i pins s σ H E I hf st hg
  subst hP hw hK
  obtain⟨xs,hq,hx⟩:=hg
  obtain⟨aH,rv,p,hz⟩:=I.tuple hq
  obtain⟨f0,f1,f2,f3,f4,f5⟩:=hf it (by simp)
  have hl:=rv.length
  exact wpAny_pyNext_tuple_end (I.ok.hd hc) st (show s.heap.IsTuple a aH.toArray from p) (by simp;omega) fun h' eb=>⟨rfl,I.turned (t':=s.toks) (fun b o hb e=>eb b o hb e) f0 f1 f3 f4 f5⟩
 self:=fun _ _ _ _ _ st h=>wpAny_pyIter_tupleiter st h
theorem qE{P:Program}{w:World}{K:W.Frag}{tg:Expr}(it:Addr)(lo:Int)(n:Nat):Turn P w K tg (A2 lo n) [it] it (fun i h=>IsRangeIter h it (lo+(i:Nat)*1) ((n:Int) - (i:Nat)) 1) where
 mem:=by simp
 obj:=fun i h st b hb=>by
  have e:b=it:=by simpa using hb
  subst e
  exact⟨_,st,fun v z=>by
   have z':Data.fields _=Data.cell v:=z
   cases z'⟩
 keep:=fun i h h' st k=>k it (by simp) _ st
 item:=by
  intro X hP hw hK hc i pins s σ H E I hf st hg
  subst hP hw hK
  obtain⟨f0,f1,f2,f3,f4,f5⟩:=hf it (by simp)
  have W:=Walks.range (prog:=X.prog) (w:=X.w) (I.ok.hd hc) it lo 1 n
  refine W.item i s _ _ hg st fun v h' tk hv pj kk=>?_
  obtain⟨t,rfl⟩:=hv
  have I1:Inv X pins σ H {s with heap:=h',toks:=tk}:=I.turned (fun b o hb e=>kk b o (by simpa using hb) e) f0 f1 f3 f4 f5
  refine⟨_,rfl,oy (s:={s with heap:=h',toks:=tk}) (n:="range_iterator") pj rfl rfl (by decide) ⟨.int (lo+i),H,I1,⟨t,?_⟩,⟨rfl,rfl⟩,pj,fun b hb=>(hf b hb).1⟩⟩
  rw[Int.mul_one]
 done:=by
  intro X hP hw hK hc i pins s σ H E I hf st hg
  subst hP hw hK
  obtain⟨f0,f1,f2,f3,f4,f5⟩:=hf it (by simp)
  exact wpAny_pyNext_range_end (I.ok.hd hc) st (by have:n≤i:=hg;omega) fun h' eb=>⟨rfl,I.turned (t':=s.toks) (fun b o hb e=>eb b o hb e) f0 f1 f3 f4 f5⟩
 self:=fun _ _ _ _ _ st h=>wpAny_pyIter_rangeiter st h
section
variable{X:Cx}{tg:Expr}
def Ah(K:W.Frag)(tl:TE):TI:=fun σ H R=>tl σ H fun x H1=>∃a,x= .ref a∧(∃xs,SqL K H1 a xs)∧R (Bs K a) H1
def Co(K:W.Frag)(tl:TE):TI:=fun σ H R=>tl σ H fun x H1=>∃a,x= .ref a∧(∃xs,SqT K H1 a xs)∧R (Bt K a) H1
theorem wF{l:Expr}{tl:TE}(hl:PE X l tl):PI X tg l (Ah X.K tl):=by
 intro pins s σ H R I h
 refine bC (hl pins s σ H _ I h) fun v s1 ⟨x,H1,I1,r1,q1⟩=>?_
 obtain⟨a,e,⟨xs,hq⟩,q⟩:=q1
 subst e
 cases r1
 obtain⟨aH,rv,p,hz⟩:=I1.list hq
 refine wpAny_pyIter_list p.isList ?_
 refine⟨s1.heap.objs.size,[s1.heap.objs.size],_,_,H1,rfl,I1.kept (t':=s1.toks) fun b o e=>Heap.get?_push_of_some _ e,sM a _,⟨_,Heap.get?_push_size _ rfl,rfl,rfl⟩,fun b hb=>?_,q⟩
 have e:b=s1.heap.objs.size:=by simpa using hb
 subst e
 exact I1.fpOk (Nat.le_refl _) (I1.hok.fresh (Nat.le_refl _))
theorem y4{l:Expr}{tl:TE}(hl:PE X l tl):PI X tg l (Co X.K tl):=by
 intro pins s σ H R I h
 refine bC (hl pins s σ H _ I h) fun v s1 ⟨x,H1,I1,r1,q1⟩=>?_
 obtain⟨a,e,⟨xs,hq⟩,q⟩:=q1
 subst e
 cases r1
 obtain⟨aH,rv,p,hz⟩:=I1.tuple hq
 refine wpAny_pyIter_tuple (show s1.heap.IsTuple a aH.toArray from p) ?_
 refine⟨s1.heap.objs.size,[s1.heap.objs.size],_,_,H1,rfl,I1.kept (t':=s1.toks) fun b o e=>Heap.get?_push_of_some _ e,qF a _,⟨_,Heap.get?_push_size _ rfl,rfl,rfl⟩,fun b hb=>?_,q⟩
 have e:b=s1.heap.objs.size:=by simpa using hb
 subst e
 exact I1.fpOk (Nat.le_refl _) (I1.hok.fresh (Nat.le_refl _))
theorem uX{pins:List (Addr×Obj)}{σ:St}{H:Hp}{s:Shared}{R:It→Hp→Prop}{E:Value→Shared→Prop}{lo hi:Int}{t u v:Tok}{tk:Nat}(I:Inv X pins σ H s)(h1: -(2 ^ 62)≤lo)(h2:lo<2 ^ 62)(h3: -(2 ^ 62)≤hi)(h4:hi<2 ^ 62)
 (q:R (A2 lo (hi - lo).toNat) H):wpAny (model X.prog X.w) X.A (pyIter (.ref s.heap.objs.size)) (C2 X pins σ tg R) E {s with heap:=s.heap.push {cls:= .type "range",data:= .fields #[.int lo t, .int hi u, .int 1 v]},toks:=tk}:=by
 refine wpAny_pyIter_range (IsRange.new ..) (small_one h1 h2 h3 h4) ?_
 have I1:Inv X pins σ H {s with heap:=s.heap.push {cls:= .type "range",data:= .fields #[.int lo t, .int hi u, .int 1 v]},toks:=tk}:=I.kept fun b o e=>Heap.get?_push_of_some _ e
 refine⟨(s.heap.push {cls:= .type "range",data:= .fields #[.int lo t, .int hi u, .int 1 v]}).objs.size,[(s.heap.push {cls:= .type "range",data:= .fields #[.int lo t, .int hi u, .int 1 v]}).objs.size],_,_,H,rfl,
  I1.kept (t':=tk) fun b o e=>Heap.get?_push_of_some _ e,qE _ lo (hi - lo).toNat,?_,fun b hb=>?_,q⟩
 ·have e1:lo+((0:Nat):Int)*1=lo:=by simp
  have e2:(((hi - lo).toNat:Nat):Int) - ((0:Nat):Int)=Builtin.Range.rangeSize lo hi 1:=by rw[rangeSize_one];split<;>omega
  show IsRangeIter _ _ (lo+((0:Nat):Int)*1) ((((hi - lo).toNat:Nat):Int) - ((0:Nat):Int)) 1
  rw[e1,e2]
  exact Heap.get?_push_size _ rfl
 ·have e:b=(s.heap.push {cls:= .type "range",data:= .fields #[.int lo t, .int hi u, .int 1 v]}).objs.size:=by simpa using hb
  subst e
  exact I1.fpOk (Nat.le_refl _) (I1.hok.fresh (Nat.le_refl _))
def Ai(ta:TA):TI:=fun σ H R=>ta σ H fun vs H1=>∃j:Int,vs=[.int j]∧ -(2 ^ 62)≤j∧j<2 ^ 62∧R (A2 0 j.toNat) H1
theorem sE{a:Expr}{ta:TA}{p pos:Pos}(hg:Gl X "range")(hm:X.mg "range"=none)(ha:PA X [a] ta)(hs:starEach [a] X.env=[(false,eval a X.env)]:=by rfl):PI X tg (.Call (.Name "range" p) [a] [] pos) (Ai ta):=by
 intro pins s σ H R I h
 refine Call_ (mH I hg hm boot_range (PyProof.Rows.callWith_type1 (bC (ha pos pins s σ H _ I h) fun us s1 ⟨vs,H1,I1,r1,q1⟩=>?_) hs rfl))
 obtain⟨j,e,q1,q2,q⟩:=q1
 subst e
 cases r1 with
 |cons r rr=>
  cases rr
  obtain⟨t,rfl⟩:=r
  exact call_range_1 (uX I1 (by omega) (by omega) q1 q2 (by simpa using q))
def CP(wi:TI)(g:TG)(tb:TS):TS:=fun D σ H=>wi σ H fun J H1=>∃W:Nat→Nat→St→Hp→Prop,(∃m,W 0 m σ H1)∧∀i m σ H,W i m σ H→
 (J.stop i H∧D.nx σ H)∨(J.go i H∧∃N:St→Hp→Prop,(∀σ' H',N σ' H'→∃m',m'<m∧W (i+1) m' σ' H')∧∀x H',J.yld i H x H'→g x σ H' fun σ2 H2=>tb {D with nx:=N,ct:=N,bk:=D.nx} σ2 H2)
def j7(fp:List Addr)(h:Heap):List (Addr×Obj):=fp.filterMap fun b=>(h.get? b).map fun o=>(b,o)
theorem d7{fp:List Addr}{h:Heap}{b:Addr}{o:Obj}(hb:b∈fp)(e:h.get? b=some o):(b,o)∈j7 fp h:=List.mem_filterMap.mpr ⟨b,hb,by rw[e];rfl⟩
theorem sr{fp:List Addr}{h:Heap}{p:Addr×Obj}(hp:p∈j7 fp h):p.1∈fp∧h.get? p.1=some p.2:=by
 obtain⟨b,hb,e⟩:=List.mem_filterMap.mp hp
 cases q:h.get? b with
 |none=>rw[q] at e;cases e
 |some o=>
  rw[q] at e
  have e':(b,o)=p:=Option.some.inj e
  subst e'
  exact⟨hb,q⟩
theorem Inv.pinned{pins:List (Addr×Obj)}{σ:St}{H:Hp}{s:Shared}{fp:List Addr}(I:Inv X pins σ H s)(hf:∀b∈fp,nR X pins H b)(ho:∀b∈fp,∃o,s.heap.get? b=some o∧∀v,o.data≠ .cell v):Inv X (pins++j7 fp s.heap) σ H s:=
 I.pins_of fun p hp=>(List.mem_append.mp hp).elim (fun z=>I.pin p (List.mem_append_right _ z)) fun z=>by
  obtain⟨hb,e⟩:=sr z
  obtain⟨f0,f1,f2,_⟩:=hf p.1 hb
  obtain⟨o,e',d⟩:=ho p.1 hb
  rw[e] at e';cases e'
  exact⟨e,f0,f1,f2,d⟩
theorem Inv.unpinned{pins pl:List (Addr×Obj)}{σ:St}{H:Hp}{s:Shared}(I:Inv X (pins++pl) σ H s):Inv X pins σ H s:=I.pins_of fun p hp=>I.pin p (List.mem_append_right _ (List.mem_append_left _ hp))
theorem y7{iter:Expr}{body:List Stmt}{wi:TI}{g:TG}{tb:TS}{pos:Pos}(hp:PassesOwn (model X.prog X.w) X.A X.env X.xe)(hc:X.calm=true)(hi:PI X tg iter wi)(hg:PG X tg g)(hb:PSs X body tb)
 (hs:∀x,foldedSetIterable iter X.env x=pure x:=by intro _;rfl):PS X (.For tg iter body [] pos) (CP wi g tb):=by
 intro pins s σ H D I h
 refine wpAny_For (bC (hi pins s σ H _ I h) fun v s1 h1=>bC h1 fun Dz s2 h2=>?_) hs
 obtain⟨it,fp,tn,J,H2,e,I2,T,AQ,f2,W,⟨m0,w0⟩,turn⟩:=h2
 subst e
 have zj:∀{H':Hp},(∀b∈fp,H' b=none)→∀b∈fp,nR X pins H' b:=fun hn b hb=>⟨hn b hb,(f2 b hb).2⟩
 refine codeAny_forLoop_any (fun n s'=>∃i σ' H',Inv X pins σ' H' s'∧tn i s'.heap∧(∀b∈fp,H' b=none)∧W i n σ' H') ?_ m0 ⟨0,σ,H2,I2,AQ,fun b hb=>(f2 b hb).1,w0⟩
 rintro n s3 ⟨i,σ3,H3,I3,zB,A_,w3⟩
 rcases turn i n σ3 H3 w3 with⟨stop,qn⟩ | ⟨go,N,hN,step⟩
 ·refine wpAny_passesOwn hp (bC (T.done X rfl rfl rfl hc i pins s3 σ3 H3 X.xe I3 (zj A_) zB stop) fun r s4 ⟨hr,I4⟩=>?_)
  subst hr
  exact wpAny_execs_nil ⟨σ3,H3,I4,qn⟩
 ·refine wpAny_passesOwn hp (bC (T.item X rfl rfl rfl hc i pins s3 σ3 H3 X.xe I3 (zj A_) zB go) fun r s4 ⟨u,hr,h4⟩=>?_)
  subst hr
  refine wpAny_passesOwn hp (bC h4 fun _ s5 ⟨x,H5,I5,r5,y5,CJ,D3⟩=>?_)
  have I5':=I5.pinned (zj D3) (T.obj _ _ CJ)
  refine wpAny_passesOwn hp (bC (hg _ s5 σ3 H5 x u _ I5' r5 (step x H5 y5)) fun _ s6 ⟨σ6,H6,I6,q6⟩=>?_)
  refine wpAny_passesOwn hp (bC (hb _ s6 σ6 H6 _ I6 q6) fun f s7 q7=>?_)
  have again:∀{σ7:St}{H7:Hp},Inv X (pins++j7 fp s5.heap) σ7 H7 s7→N σ7 H7→∃m,m<n∧∃i σ' H',Inv X pins σ' H' s7∧tn i s7.heap∧(∀b∈fp,H' b=none)∧W i m σ' H':=fun {σ7 H7} I7 n7=>by
   obtain⟨m',hm,w7⟩:=hN σ7 H7 n7
   refine⟨m',hm,i+1,σ7,H7,I7.unpinned,T.keep _ _ _ CJ fun b hb o e=>(I7.pin (b,o) (List.mem_append_right _ (List.mem_append_right _ (d7 hb e)))).1,fun b hb=>?_,w7⟩
   obtain⟨o,e,d⟩:=T.obj _ _ CJ b hb
   exact(I7.pin (b,o) (List.mem_append_right _ (List.mem_append_right _ (d7 hb e)))).2.1
  cases f with
  |next=>obtain⟨σ7,H7,I7,n7⟩:=q7;exact again I7 n7
  |cont=>obtain⟨σ7,H7,I7,n7⟩:=q7;exact again I7 n7
  |brk=>obtain⟨σ7,H7,I7,q7⟩:=q7;exact⟨σ7,H7,I7.unpinned,q7⟩
  |ret v=>obtain⟨x7,σ7,H7,I7,r7,q7⟩:=q7;exact⟨x7,σ7,H7,I7.unpinned,r7,q7⟩
end
abbrev R2:=V→V→Hp→VK→Prop
def OpR(X:Cx)(f:Value→Value→Sem Value)(r:R2):Prop:=
 ∀(pins:List (Addr×Obj)) (s:Shared) (σ:St) (H:Hp) (x y:V) (v u:Value) (Q:VK),Inv X pins σ H s→RelV x v→RelV y u→r x y H Q→
  wpAny (model X.prog X.w) X.A (f v u) (EP X pins σ Q) X.xe s
def By(X:Cx)(f:Value→Sem Value)(r:V→Hp→VK→Prop):Prop:=
 ∀(pins:List (Addr×Obj)) (s:Shared) (σ:St) (H:Hp) (x:V) (v:Value) (Q:VK),Inv X pins σ H s→RelV x v→r x H Q→
  wpAny (model X.prog X.w) X.A (f v) (EP X pins σ Q) X.xe s
def CallR(X:Cx)(f:Value)(r:List V→Hp→VK→Prop):Prop:=
 ∀(pins:List (Addr×Obj)) (s:Shared) (σ:St) (H:Hp) (xs:List V) (us:List Value) (Q:VK),Inv X pins σ H s→Vals xs us→r xs H Q→
  wpAny (model X.prog X.w) X.A (call f us) (EP X pins σ Q) X.xe s
def Bx(X:Cx)(r:V→Hp→(Bool→Hp→Prop)→Prop):Prop:=
 ∀(pins:List (Addr×Obj)) (s:Shared) (σ:St) (H:Hp) (x:V) (v:Value) (Q:Bool→Hp→Prop),Inv X pins σ H s→RelV x v→r x H Q→
  wpAny (model X.prog X.w) X.A (truthy v) (TP X pins σ Q) X.xe s
def AW(r:R2)(ta tb:TE):TE:=fun σ H Q=>ta σ H fun x H1=>tb σ H1 fun y H2=>r x y H2 Q
def E2(r:V→Hp→VK→Prop)(ta:TE):TE:=fun σ H Q=>ta σ H fun x H1=>r x H1 Q
def rI(C:Int→Int→Prop)(g:Int→Int→V):R2:=fun x y H Q=>∃i j,x= .int i∧y= .int j∧C i j∧Q (g i j) H
def sG(g:Int→Int→V):R2:=fun x y H Q=>∃i j,x= .int i∧y= .int j∧Q (g i j) H
def rU(g:Int→V):V→Hp→VK→Prop:=fun x H Q=>∃i,x= .int i∧Q (g i) H
section
variable{X:Cx}{a b c:Expr}{ta tb tc:TE}{pos:Pos}
theorem xR(ha:PE X a ta)(hb:PE X b tb){pins:List (Addr×Obj)}{s:Shared}{σ:St}{H:Hp}{R:V→V→Hp→Prop}(I:Inv X pins σ H s)
 (h:ta σ H fun x H1=>tb σ H1 fun y H2=>R x y H2){Q:Value→Shared→Prop}{f:Value→Value→Sem Value}
 (hf:∀v u s2 x y H2,Inv X pins σ H2 s2→RelV x v→RelV y u→R x y H2→wpAny (model X.prog X.w) X.A (f v u) Q X.xe s2):
 wpAny (model X.prog X.w) X.A (eval a X.env) (fun v s₁=>wpAny (model X.prog X.w) X.A (eval b X.env) (fun u s₂=>wpAny (model X.prog X.w) X.A (f v u) Q X.xe s₂) X.xe s₁) X.xe s:=by
 refine bC (ha pins s σ H _ I h) fun v s1 ⟨x,H1,I1,r1,q1⟩=>?_
 refine bC (hb pins s1 σ H1 _ I1 q1) fun u s2 ⟨y,H2,I2,r2,q2⟩=>?_
 exact hf v u s2 x y H2 I2 r1 r2 q2
theorem Ax{op:Operator}{r:R2}(ho:OpR X (binaryOp op) r)(ha:PE X a ta)(hb:PE X b tb):PE X (.BinOp a op b pos) (AW r ta tb):=by
 intro pins s σ H Q I h
 exact wpAny_BinOp (xR ha hb I h fun v u s2 x y H2 I2 rx ry q=>ho pins s2 σ H2 x y v u Q I2 rx ry q)
theorem Ay{op:UnaryOp}{r:V→Hp→VK→Prop}(ho:By X (unaryOp op) r)(ha:PE X a ta):PE X (.UnaryOp op a pos) (E2 r ta):=by
 intro pins s σ H Q I h
 exact UnaryOp_ (bC (ha pins s σ H _ I h) fun v s1 ⟨x,H1,I1,r1,q1⟩=>ho pins s1 σ H1 x v Q I1 r1 q1)
theorem CA{f:Value→Value→Sem Value}{C:Int→Int→Prop}{g:Int→Int→Int}
 (rule:∀(i j:Int) (t u:Tok) (s:Shared) (Q:Value→Shared→Prop) (E:Value→Shared→Prop),C i j→Q (.int (g i j) s.toks) {s with toks:=s.toks+1}→wpAny (model X.prog X.w) X.A (f (.int i t) (.int j u)) Q E s):
 OpR X f (rI C fun i j=> .int (g i j)):=by
 intro pins s σ H x y v u Q I rx ry h
 obtain⟨i,j,rfl,rfl,hc,q⟩:=h
 obtain⟨t,rfl⟩:=rx
 obtain⟨t',rfl⟩:=ry
 exact rule i j t t' s _ _ hc ⟨.int (g i j),H,I.tok _,⟨_,rfl⟩,q⟩
theorem Aq{f:Value→Value→Sem Value}{g:Int→Int→Int}
 (rule:∀(i j:Int) (t u:Tok) (s:Shared) (Q:Value→Shared→Prop) (E:Value→Shared→Prop),Q (.int (g i j) s.toks) {s with toks:=s.toks+1}→wpAny (model X.prog X.w) X.A (f (.int i t) (.int j u)) Q E s):
 OpR X f (sG fun i j=> .int (g i j)):=by
 intro pins s σ H x y v u Q I rx ry h
 obtain⟨i,j,rfl,rfl,q⟩:=h
 obtain⟨t,rfl⟩:=rx
 obtain⟨t',rfl⟩:=ry
 exact rule i j t t' s _ _ ⟨.int (g i j),H,I.tok _,⟨_,rfl⟩,q⟩
theorem Ap{f:Value→Value→Sem Value}{g:Int→Int→Bool}
 (rule:∀(i j:Int) (t u:Tok) (s:Shared) (Q:Value→Shared→Prop) (E:Value→Shared→Prop),Q (.bool (g i j)) s→wpAny (model X.prog X.w) X.A (f (.int i t) (.int j u)) Q E s):
 OpR X f (sG fun i j=> .bl (g i j)):=by
 intro pins s σ H x y v u Q I rx ry h
 obtain⟨i,j,rfl,rfl,q⟩:=h
 obtain⟨t,rfl⟩:=rx
 obtain⟨t',rfl⟩:=ry
 exact rule i j t t' s _ _ ⟨.bl (g i j),H,I,rfl,q⟩
def zC(i j:Int):Prop:=0<j∧j<1073741824
def CMul(i j:Int):Prop:=(-(2 ^ 64)<i∧i<2 ^ 64)∨(-(2 ^ 64)<j∧j<2 ^ 64)
theorem CMul.ok{i j:Int}(h:CMul i j):IntMulOk i j:=by
 rcases h with⟨h1,h2⟩ | ⟨h1,h2⟩
 ·exact .of_left (intBits_le_64 h1 h2)
 ·exact .of_right (intBits_le_64 h1 h2)
theorem yG:OpR X (binaryOp .Add) (sG fun i j=> .int (i+j)):=Aq fun _ _ _ _ _ _ _ q=>add_int q
theorem yK:OpR X (binaryOp .Sub) (sG fun i j=> .int (i - j)):=Aq fun _ _ _ _ _ _ _ q=>sub_int q
theorem yI:OpR X (binaryOp .Mult) (rI CMul fun i j=> .int (i*j)):=CA fun _ _ _ _ _ _ _ hc q=>mul_int q hc.ok
theorem v8:OpR X (binaryOp .FloorDiv) (rI zC fun i j=> .int (i / j)):=CA fun i j _ _ _ _ _ hc q=>by
 have h1:(0:Int)<j:=hc.1
 have h2:j<1073741824:=hc.2
 exact floordiv_int (by omega) (by rw[Int.fdiv_eq_ediv_of_nonneg i (by omega)];exact q) (.inl (PyProof.noPylong_small (by omega)))
theorem yH:OpR X (binaryOp .Mod) (rI (fun _ j=>0<j) fun i j=> .int (i % j)):=CA fun i j _ _ _ _ _ hc q=>by
 have h1:(0:Int)<j:=hc
 exact mod_int' (by omega) (by rw[Int.fmod_eq_emod_of_nonneg i (by omega)];exact q)
theorem E3{f:Value→Sem Value}{g:Int→Int}
 (rule:∀(i:Int) (t:Tok) (s:Shared) (Q:Value→Shared→Prop) (E:Value→Shared→Prop),Q (.int (g i) s.toks) {s with toks:=s.toks+1}→wpAny (model X.prog X.w) X.A (f (.int i t)) Q E s):
 By X f (rU fun i=> .int (g i)):=by
 intro pins s σ H x v Q I rx h
 obtain⟨i,rfl,q⟩:=h
 obtain⟨t,rfl⟩:=rx
 exact rule i t s _ _ ⟨.int (g i),H,I.tok _,⟨_,rfl⟩,q⟩
theorem zr:By X (unaryOp .USub) (rU fun i=> .int (-i)):=E3 fun _ _ _ _ _ q=>neg_int q
end
section
variable{X:Cx}{a b c:Expr}{ta tb tc:TE}{pos:Pos}
theorem tH{pins:List (Addr×Obj)}{σ:St}{H:Hp}{s:Shared}{Q:VK}{k k':Bool}(I:Inv X pins σ H s)(q:Q (.bl k) H)(e:k=k'):EP X pins σ Q (.bool k') s:=by
 subst e
 exact⟨.bl k,H,I,rfl,q⟩
theorem xF:OpR X (compareOp .Lt) (sG fun i j=> .bl (decide (i<j))):=Ap fun _ _ _ _ _ _ _ q=>lt_int q
theorem lT:OpR X (compareOp .LtE) (sG fun i j=> .bl (decide (i≤j))):=Ap fun _ _ _ _ _ _ _ q=>le_int q
theorem lS:OpR X (compareOp .In) (fun x y H Q=>∃i j,x= .str i∧y= .str j∧Q (.bl (!(Builtin.Str.occurrences j i 0 j.length 1).isEmpty)) H):=by
 intro pins s σ H x y v u Q I rx ry h
 obtain⟨i,j,rfl,rfl,q⟩:=h
 obtain⟨t,rfl⟩:=rx
 obtain⟨t',rfl⟩:=ry
 exact in_str (tH I q rfl)
theorem mQ:OpR X (compareOp .NotIn) (fun x y H Q=>∃i j,x= .str i∧y= .str j∧Q (.bl (!(!(Builtin.Str.occurrences j i 0 j.length 1).isEmpty))) H):=by
 intro pins s σ H x y v u Q I rx ry h
 obtain⟨i,j,rfl,rfl,q⟩:=h
 obtain⟨t,rfl⟩:=rx
 obtain⟨t',rfl⟩:=ry
 exact notIn_str (tH I q rfl)
theorem OpR.or{f:Value→Value→Sem Value}{r r':R2}(h:OpR X f r)(h':OpR X f r'):OpR X f (fun x y H Q=>r x y H Q∨r' x y H Q):=by
 intro pins s σ H x y v u Q I rx ry q
 rcases q with q | q
 ·exact h pins s σ H x y v u Q I rx ry q
 ·exact h' pins s σ H x y v u Q I rx ry q
theorem uq(b:Expr){op:CmpOp}(h:op≠ .In:=by decide)(h2:op≠ .NotIn:=by decide):behindInMarks op b=false:=by
 have e1:(op==CmpOp.In)=false:=by cases op<;>first | rfl | exact absurd rfl h
 have e2:(op==CmpOp.NotIn)=false:=by cases op<;>first | rfl | exact absurd rfl h2
 cases b<;>simp[behindInMarks,e1,e2]
theorem wB{op:CmpOp}{r:R2}(ho:OpR X (compareOp op) r)(ha:PE X a ta)(hb:PE X b tb)(hm:behindInMarks op b=false):PE X (.Compare a [op] [b] pos) (AW r ta tb):=by
 intro pins s σ H Q I h
 exact wpAny_Compare1 (xR ha hb I h fun v u s2 x y H2 I2 rx ry q=>ho pins s2 σ H2 x y v u Q I2 rx ry q) hm
def xN(t:TE):TT:=fun σ H Q=>t σ H fun x H'=>∃k,x= .bl k∧Q k H'
theorem wN{op:CmpOp}{r:R2}(ho:OpR X (compareOp op) r)(ha:PE X a ta)(hb:PE X b tb)(hm:behindInMarks op b=false):PT X (.Compare a [op] [b] pos) (xN (AW r ta tb)):=by
 intro pins s σ H Q I h
 refine wpAny_isTrue_Compare1 (bC (ha pins s σ H _ I h) fun v s1 ⟨x,H1,I1,r1,q1⟩=>bC (hb pins s1 σ H1 _ I1 q1) fun u s2 ⟨y,H2,I2,r2,q2⟩=>
  bC (ho pins s2 σ H2 x y v u _ I2 r1 r2 q2) fun c s3 ⟨z,H3,I3,r3,k,e,q3⟩=>?_) hm
 subst e
 cases r3
 exact wpAny_truthy_bool ⟨H3,I3,q3⟩
def qB(r r':R2)(ta tb tc:TE):TE:=fun σ H Q=>ta σ H fun x H1=>tb σ H1 fun y H2=>r x y H2 fun z H3=>∃k,z= .bl k∧
 (if k=true then tc σ H3 fun w' H4=>r' y w' H4 Q else Q (.bl false) H3)
theorem uJ{op qj:CmpOp}{r r':R2}(ho:OpR X (compareOp op) r)(lH:OpR X (compareOp qj) r')(ha:PE X a ta)(hb:PE X b tb)(hc:PE X c tc)
 (hm:lastMarks [op,qj] [b,c]=false:=by with_unfolding_all rfl):PE X (.Compare a [op,qj] [b,c] pos) (qB r r' ta tb tc):=by
 intro pins s σ H Q I h
 refine Compare_chain (bC (ha pins s σ H _ I h) fun v s1 ⟨x,H1,I1,r1,q1⟩=>chain_link (bC (hb pins s1 σ H1 _ I1 q1) fun u s2 ⟨y,H2,I2,r2,q2⟩=>
  bC (ho pins s2 σ H2 x y v u _ I2 r1 r2 q2) fun d s3 ⟨z,H3,I3,r3,k,e,q3⟩=>?_)) hm
 subst e
 cases r3
 refine wpAny_truthy_bool ?_
 cases k with
 |false=>exact ite_ff ⟨.bl false,H3,I3,rfl,q3⟩
 |true=>exact ite_tt (chain_last (bC (hc pins s3 σ H3 _ I3 q3) fun w' s4 ⟨z',H4,I4,r4,q4⟩=>lH pins s4 σ H4 y z' u w' Q I4 r2 r4 q4))
theorem uT{op qj:CmpOp}{r r':R2}(ho:OpR X (compareOp op) r)(lH:OpR X (compareOp qj) r')(ha:PE X a ta)(hb:PE X b tb)(hc:PE X c tc)
 (hm:lastMarks [op,qj] [b,c]=false:=by with_unfolding_all rfl):PT X (.Compare a [op,qj] [b,c] pos) (xN (qB r r' ta tb tc)):=by
 intro pins s σ H Q I h
 refine isTrue_chain (bC (ha pins s σ H _ I h) fun v s1 ⟨x,H1,I1,r1,q1⟩=>test_link (bC (hb pins s1 σ H1 _ I1 q1) fun u s2 ⟨y,H2,I2,r2,q2⟩=>
  bC (ho pins s2 σ H2 x y v u _ I2 r1 r2 q2) fun d s3 ⟨z,H3,I3,r3,k,e,q3⟩=>?_)) hm
 subst e
 cases r3
 refine wpAny_truthy_bool ?_
 cases k with
 |false=>
  obtain⟨k',e',q'⟩:=q3
  cases e'
  exact ite_ff ⟨H3,I3,q'⟩
 |true=>
  refine ite_tt (test_last (bC (hc pins s3 σ H3 _ I3 q3) fun w' s4 ⟨z',H4,I4,r4,q4⟩=>bC (lH pins s4 σ H4 y z' u w' _ I4 r2 r4 q4) fun d' s5 ⟨z2,H5,I5,r5,k2,e2,q5⟩=>?_))
  subst e2
  cases r5
  exact wpAny_truthy_bool ⟨H5,I5,q5⟩
def zH(K:W.Frag)(x:V)(H:Hp)(k:Bool):Prop:=
 match x with
 | .non=>k=false
 | .bl b=>k=b
 | .int i=>k=(i !=0)
 | .str y=>y.length≤sizeLine∧k=((y.length:Int) !=0)
 | .byt y=>y.size≤sizeLine∧k=((y.size:Int) !=0)
 | .ref p=>(∃xs,SqL K H p xs∧k=!xs.isEmpty)∨(∃xs,SqT K H p xs∧k=!xs.isEmpty)∨∃aB,H p=some (.dK aB)∧k=!aB.isEmpty
 |_=>False
theorem p4{κ:Type}{aB:List (κ×V)}{vs:List (κ×Value)}(r:KV aB vs):(!vs.isEmpty)=!aB.isEmpty:=by
 cases r<;>rfl
theorem jK{xs:List V}{aH:List Value}(r:Vals xs aH):(!aH.toArray.isEmpty)=!xs.isEmpty:=by
 cases r<;>simp
theorem ie:(sizeLine:Nat)<2 ^ 63:=by rw[sizeLine_eq];decide
theorem zp:Bx X (fun x H Q=>∃k,zH X.K x H k∧Q k H):=by
 intro pins s σ H x v Q I rx h
 obtain⟨k,e,q⟩:=h
 have hl:=ie
 have hs:sizeLine=16777216:=sizeLine_eq
 cases x with
 |non=>
  cases rx
  have e':k=false:=e
  subst e'
  exact truthy_none ⟨H,I,q⟩
 |bl b=>
  cases rx
  have e':k=b:=e
  subst e'
  exact wpAny_truthy_bool ⟨H,I,q⟩
 |int i=>
  obtain⟨t,rfl⟩:=rx
  have e':k=(i !=0):=e
  subst e'
  exact PySem.P.truthy_int ⟨H,I,q⟩
 |str y=>
  obtain⟨t,rfl⟩:=rx
  obtain⟨hy,e'⟩:y.length≤sizeLine∧k=((y.length:Int) !=0):=e
  subst e'
  exact PySem.P.truthy_str (by omega) ⟨H,I.tok _,q⟩
 |byt y=>
  obtain⟨t,rfl⟩:=rx
  obtain⟨hy,e'⟩:y.size≤sizeLine∧k=((y.size:Int) !=0):=e
  subst e'
  exact PySem.W.truthy_bytes (by omega) ⟨H,I.tok _,q⟩
 |ref p=>
  cases rx
  have e':(∃xs,SqL X.K H p xs∧k=!xs.isEmpty)∨(∃xs,SqT X.K H p xs∧k=!xs.isEmpty)∨∃aB,H p=some (.dK aB)∧k=!aB.isEmpty:=e
  rcases e' with⟨xs,hx,e'⟩ | ⟨xs,hx,e'⟩ | ⟨aB,hx,e'⟩
  ·subst e'
   obtain⟨aH,r,pl,hz⟩:=I.list hx
   have hlen:=r.length
   exact wpAny_truthy_list pl.isList (by simp only[List.size_toArray];omega) ⟨H,I.tok _,by rw[jK r];exact q⟩
  ·subst e'
   obtain⟨aH,r,pl,hz⟩:=I.tuple hx
   have hlen:=r.length
   exact truthy_tuple pl (by simp only[List.size_toArray];omega) ⟨H,I.tok _,by rw[jK r];exact q⟩
  ·subst e'
   obtain⟨hz,hS,vs,r,m⟩:aB.length≤sizeLine∧(p==sysModules)=false∧∃vs,KV aB vs∧s.heap.DictOf (ba X.prog X.w) p vs:=I.hok p _ hx
   have hlen:aB.length=vs.length:=Paired.length r
   exact wpAny_truthy_dict hS m (by omega) ⟨H,I.tok _,by rw[p4 r];exact q⟩
 |_=>exact(show False from e).elim
theorem uU(ha:PE X a ta)(he:∀whole,isTrue a X.env whole=(do let v←whole;standAt a.pos;holding [v] (truthy v))):
 PT X a (fun σ H Q=>ta σ H fun x H'=>∃k,zH X.K x H' k∧Q k H'):=by
 intro pins s σ H Q I h
 exact isTrue_plain (bC (ha pins s σ H _ I h) fun v s1 ⟨x,H1,I1,r1,q1⟩=>zp pins s1 σ H1 x v Q I1 r1 q1) (he _)
theorem qk:OpR X (binaryOp .Add) (fun x y H Q=>∃i j,x= .str i∧y= .str j∧i.length+j.length≤sizeLine∧Q (.str (i++j)) H):=by
 intro pins s σ H x y v u Q I rx ry h
 obtain⟨i,j,rfl,rfl,hz,q⟩:=h
 obtain⟨t,rfl⟩:=rx
 obtain⟨t',rfl⟩:=ry
 exact add_str (fun t' tk=>⟨.str (i++j),H,I.tok _,⟨_,rfl⟩,q⟩) hz
theorem vals1{x:V}{us:List Value}(r:Vals [x] us):∃u,us=[u]∧RelV x u:=by
 cases r with
 |cons r1 r2=>cases r2;exact⟨_,rfl,r1⟩
theorem vals2{x y:V}{us:List Value}(r:Vals [x,y] us):∃u w',us=[u,w']∧RelV x u∧RelV y w':=by
 cases r with
 |cons r1 r2=>
  cases r2 with
  |cons r3 r4=>cases r4;exact⟨_,_,rfl,r1,r3⟩
theorem lj:CallR X (.type "int") (fun xs H Q=>(∃i,xs=[.int i]∧Q (.int i) H)∨∃k,xs=[.bl k]∧Q (.int (if k then 1 else 0)) H):=by
 intro pins s σ H xs us Q I r h
 rcases h with⟨i,rfl,q⟩ | ⟨k,rfl,q⟩
 ·obtain⟨u,rfl,t,rfl⟩:=vals1 r
  exact call_int_int ⟨.int i,H,I,⟨_,rfl⟩,q⟩
 ·obtain⟨u,rfl,r1⟩:=vals1 r
  cases r1
  exact call_int_bool ⟨.int (if k then 1 else 0),H,I.tok _,⟨_,rfl⟩,q⟩
end
structure ObjM (h:Heap) (x dx C:Addr) (mA:Str→Option Value):Prop where
 obj:h.get? x=some (PySem.W.instObj C dx)
 ns:h.Ns1 dx mA
 ne:dx≠x
theorem r_{h:Heap}{dx:Addr}{mA:Str→Option Value}(n:h.Ns1 dx mA):∃od,h.get? dx=some od∧∀name,PySem.W.lookIn name od=some (mA name):=by
 obtain⟨o,es,ep,ho,hd,hk,_,hm⟩:=n
 refine⟨o,ho,fun name=>?_⟩
 have e:=hm name
 unfold nsFind findBy at e
 rw[←Array.find?_toList] at e
 unfold PySem.W.lookIn
 rw[hd]
 dsimp only
 split
 ·rename_i y q
  rw[q] at e
  exact congrArg some e
 ·rename_i q
  rw[q] at e
  have a:es.toList.any (·.refKey)=false:=by
   rw[List.any_eq_false]
   intro y hy
   obtain⟨z,t,B5⟩:=hk y (Array.mem_toList_iff.mp hy)
   simp[DictEntry.refKey,B5]
  have a':¬es.toList.any (·.refKey)=true:=by rw[a];exact Bool.false_ne_true
  rw[if_neg a']
  exact congrArg some e
theorem ObjM.look{h:Heap}{x dx C:Addr}{mA:Str→Option Value}(I:ObjM h x dx C mA):∃od,PySem.W.InstAt h x (PySem.W.instObj C dx) C (some od)∧∀name,PySem.W.lookIn name od=some (mA name):=
 let ⟨od,ho,hl⟩:=r_ I.ns
 ⟨od,⟨I.obj,rfl,rfl,ho⟩,hl⟩
section
variable{prog:Program}{w:World}{A:Around}{E:Value→Shared→Prop}{s:Shared}{K:W.Frag}{x dx C f:Addr}{mA:Str→Option Value}{name:Str}{v:Value}
end
section
variable{P:Program}{w:World}{H H':Hp}{h h':Heap}{a C dx:Addr}{fs BK:List (Str×V)}
theorem vL(hok:HOk P w H h)(e:H a=some (.ins C dx fs)):∃mA,ObjM h a dx C mA∧(∀f,RelO (fs.lookup f) (mA f))∧PySem.Within mA (fs.map (·.1))∧fs.length≤1000∧H dx=some (.own a):=by
 obtain⟨d,z,ne,ob,mA,n,r,q⟩:=(show ObjOk P w H h a (.ins C dx fs) from hok a _ e)
 exact⟨mA,⟨ob,n,ne⟩,r,q,z,d⟩
end
structure Cls (K:W.Frag) (C:Addr):Prop where
 pg:PySem.W.plainGet K C Str.empty=true
 hd:PySem.W.hasDictIn K C=true
 po:PySem.W.plainOver K C=true
 sa:PySem.W.findIn K (.ref C) "__setattr__"=some (some (.builtin "object.__setattr__"))
theorem Cls.get{K:W.Frag}{C:Addr}(c:Cls K C)(f:Str):PySem.W.plainGet K C f=true:=c.pg
structure Con (K:W.Frag) (C:Addr) (f:Str) (v:V) (u:Value):Prop where
 at_:PySem.W.findIn K (.ref C) f=some (some u)
 rel:RelV v u
 get:PySem.W.specialIn K u "__get__"=some none
 cp:PySem.W.copiedNames.contains f=false
structure Meth (K:W.Frag) (C:Addr) (m:Str) (f:Addr):Prop where
 at_:PySem.W.findIn K (.ref C) m=some (some (.ref f))
 fn:PySem.W.isFn K (.ref f)=true
 kp:PySem.W.keepIn K (.ref f)=true
section
variable{X:Cx}{pins:List (Addr×Obj)}{σ:St}{H:Hp}{s:Shared}{a C dx:Addr}{fs:List (Str×V)}{f:Str}{v:V}{A:Around}{E:Value→Shared→Prop}
end
section
variable{X:Cx}{o e value:Expr}{f:Str}{pos pos' CZ:Pos}{ta tv:TE}
end
section
variable{X:Cx}{pins:List (Addr×Obj)}{σ:St}{H:Hp}{s:Shared}{A:Around}{E:Value→Shared→Prop}{Q:Value→Shared→Prop}{c:Value}{b:Bool}
inductive TyOf (K:W.Frag) (H:Hp):V→Value→Prop where
 |non:TyOf K H .non (.type "NoneType")
 |bl (x:Bool):TyOf K H (.bl x) (.type "bool")
 |int (i:Int):TyOf K H (.int i) (.type "int")
 |str (x:Str):TyOf K H (.str x) (.type "str")
 |flt (x:UInt64):TyOf K H (.flt x) (.type "float")
 |lst {a:Addr}{xs:List V}(e:H a=some (.lst xs)):TyOf K H (.ref a) (.type "list")
 |frz {a:Addr}{o:Obj}{xs:List V}(e:H a=some (.frz o (.lst xs))):TyOf K H (.ref a) (.type "list")
 |tup {a:Addr}{xs:List V}(e:H a=some (.tup xs)):TyOf K H (.ref a) (.type "tuple")
 |dK {a:Addr}{aB:List (Key×V)}(e:H a=some (.dK aB)):TyOf K H (.ref a) (.type "dict")
 |dT {a:Addr}{aB:List (List Key×V)}(e:H a=some (.dT aB)):TyOf K H (.ref a) (.type "dict")
 |ins {a C dx:Addr}{fs:List (Str×V)}(e:H a=some (.ins C dx fs)) (cl:Cls K C) (ha:PySem.W.findIn K (.ref C) "__class__"=some (some (.builtin "object.__class__")))
   (hn:PySem.W.specialIn K (.builtin "object.__class__") "__get__"=some (some (.builtin "getset_descriptor.__get__"))) (Du:PySem.W.takesIn K (.builtin "object.__class__")=some true)
   (hm:PySem.W.mroIn K C (.type "object")=some true):TyOf K H (.ref a) (.ref C)
theorem rX{x:V}{u t:Value}(I:Inv X pins σ H s)(rx:RelV x u)(ty:TyOf X.K H x t)(e:PySem.W.kitOne X.K t c=some b)(h:∀tk,Q (.bool b) {s with toks:=tk}):
 wpAny (model X.prog X.w) A (call (.builtin "isinstance") [u,c]) Q E s:=by
 cases ty with
 |non=>cases (show u=Value.none from rx);exact PySem.W.kia_one PySem.W.kitx_none I.kIn True.intro e (fun z=>nomatch z) h
 |bl y=>cases (show u=Value.bool y from rx);exact PySem.W.kia_one PySem.W.kitx_bool I.kIn True.intro e (fun z=>nomatch z) h
 |int i=>obtain⟨t,q⟩:=(show∃t,u=Value.int i t from rx);cases q;exact PySem.W.kia_one PySem.W.kitx_int I.kIn True.intro e (fun z=>nomatch z) h
 |str y=>obtain⟨t,q⟩:=(show∃t,u=Value.str y t from rx);cases q;exact PySem.W.kia_one PySem.W.kitx_str I.kIn True.intro e (fun z=>nomatch z) h
 |flt y=>obtain⟨t,q⟩:=(show∃t,u=Value.float y t from rx);cases q;exact PySem.W.kia_one PySem.W.kitx_float I.kIn True.intro e (fun z=>nomatch z) h
 | @lst a xs ea=>
   cases (show u=Value.ref a from rx)
   obtain⟨_,_,n,_,h1⟩:=(show ObjOk X.prog X.w H s.heap a (.lst xs) from I.hok a _ ea)
   exact PySem.W.kia_one PySem.W.kitx_list I.kIn ⟨_,h1,rfl⟩ e (fun z=>nomatch z) h
 | @frz a ob xs ea=>
   cases (show u=Value.ref a from rx)
   obtain⟨_,_,_,n,_,h1⟩:=(show ObjOk X.prog X.w H s.heap a (.frz ob (.lst xs)) from I.hok a _ ea)
   exact PySem.W.kia_one PySem.W.kitx_list I.kIn ⟨_,h1,rfl⟩ e (fun z=>nomatch z) h
 | @tup a xs ea=>
   cases (show u=Value.ref a from rx)
   obtain⟨_,_,_,p⟩:=(show ObjOk X.prog X.w H s.heap a (.tup xs) from I.hok a _ ea)
   obtain⟨o,h1,h2,_⟩:=p
   exact PySem.W.kia_one PySem.W.kitx_tuple I.kIn ⟨o,h1,h2⟩ e (fun z=>nomatch z) h
 | @dK a aB ea=>
   cases (show u=Value.ref a from rx)
   obtain⟨_,_,vs,_,p⟩:=(show ObjOk X.prog X.w H s.heap a (.dK aB) from I.hok a _ ea)
   obtain⟨o,es,ep,h1,h2,_⟩:=p
   exact PySem.W.kia_one PySem.W.kitx_dict I.kIn ⟨o,h1,h2.1⟩ e (fun z=>nomatch z) h
 | @dT a aB ea=>
   cases (show u=Value.ref a from rx)
   obtain⟨_,_,xs,_,o,es,ep,h1,h2,_⟩:=(show ObjOk X.prog X.w H s.heap a (.dT aB) from I.hok a _ ea)
   exact PySem.W.kia_one PySem.W.kitx_dict I.kIn ⟨o,h1,h2.1⟩ e (fun z=>nomatch z) h
 | @ins a C dx fs ea cl ha hn Du hm=>
   cases (show u=Value.ref a from rx)
   obtain⟨mA,O,_⟩:=vL I.hok ea
   obtain⟨od,J,_⟩:=O.look
   exact PySem.W.kia_one (PySem.W.kitx_own (cl.get _) cl.hd ha hn Du hm) I.kIn J e (fun z=>nomatch z) h
end
structure Room (k:Nat) (A:Around):Prop where
 hd:A.handled=none
 dp:A.depth+3*k+5<recursionLimit
 un:A.units+16*k+200<cLine
theorem Room.mono{j k:Nat}{A:Around}(r:Room k A)(h:j≤k):Room j A:=⟨r.hd,by have:=r.dp;omega,by have:=r.un;omega⟩
theorem Room.deeper{k:Nat}{A:Around}(r:Room (k+1) A)(env:Env):Room k (A.deeper env):=
 ⟨r.hd,by have:=r.dp;show A.depth+1+3*k+5<_;omega,by have:=r.un;show A.units+3+16*k+200<_;omega⟩
theorem Room.depth{k:Nat}{A:Around}(r:Room k A):A.depth<recursionLimit:=by have:=r.dp;omega
theorem Room.units{k:Nat}{A:Around}(r:Room k A):A.units+64<cLine:=by have:=r.un;omega
def zo:TA:=fun _ H Q=>Q [] H
def vi(ta:TE)(tr:TA):TA:=fun σ H Q=>ta σ H fun x H1=>tr σ H1 fun xs H2=>Q (x::xs) H2
section
variable{X:Cx}{e:Expr}{es:List Expr}{te:TE}{t:TA}{pos:Pos}
theorem mT:PA X [] zo:=fun _ _ _ _ H Q I h=>Calls.spliced_nil ⟨[],H,I, .nil,h⟩
theorem mS(ha:PE X e te)(hr:PA X es t)(hs:starEach (e::es) X.env=(false,eval e X.env)::starEach es X.env:=by rfl):PA X (e::es) (vi te t):=by
 intro pos pins s σ H Q I h
 rw[hs]
 show wpAny _ _ (spliced ((false,eval e X.env)::backTo pos (starEach es X.env))) _ _ s
 refine Calls.spliced_cons (bC (ha pins s σ H _ I h) fun u s1 ⟨x,H1,I1,r1,q1⟩=>?_)
 exact bC (hr pos pins s1 σ H1 _ I1 q1) fun us s2 ⟨xs,H2,I2,r2,q2⟩=>⟨x::xs,H2,I2, .cons r1 r2,q2⟩
def CY(t:TA):TE:=fun σ H Q=>t σ H fun xs H1=>xs.length≤sizeLine∧∀p,H1 p=none→Q (.ref p) (upd H1 p (.tup xs))
def CS(t:TA):TE:=fun σ H Q=>t σ H fun xs H1=>xs.length≤sizeLine∧∀p,H1 p=none→Q (.ref p) (upd H1 p (.lst xs))
theorem yZ{x1}(h:PA X es t):PE X (.Tuple es x1 pos) (CY t):=by
 intro pins s σ H Q I hq
 refine wpAny_Tuple_spliced (bC (h pos pins s σ H _ I hq) fun us s1 ⟨xs,H1,I1,r,z,q⟩=>⟨by rw[←r.length];exact z,?_⟩)
 have hf:H1 s1.heap.objs.size=none:=I1.hok.fresh (Nat.le_refl _)
 refine⟨.ref s1.heap.objs.size,upd H1 s1.heap.objs.size (.tup xs),I1.laid (t':=s1.toks) (fun b u e=>Heap.get?_push_of_some _ e) (Nat.le_refl _) ?_,rfl,q _ hf⟩
 exact⟨z,us,r,⟨_,Heap.get?_push_size _ rfl,rfl,_,rfl⟩⟩
theorem uN(h:PA X es t):PE X (.List es pos) (CS t):=by
 intro pins s σ H Q I hq
 refine wpAny_List_spliced (bC (h pos pins s σ H _ I hq) fun us s1 ⟨xs,H1,I1,r,z,q⟩=>⟨by rw[←r.length];exact z,?_⟩)
 have hf:H1 s1.heap.objs.size=none:=I1.hok.fresh (Nat.le_refl _)
 refine⟨.ref s1.heap.objs.size,upd H1 s1.heap.objs.size (.lst xs),I1.laid (t':=s1.toks) (fun b u e=>Heap.get?_push_of_some _ e) (Nat.le_refl _) ?_,rfl,q _ hf⟩
 exact⟨z,us,0,r,Heap.get?_push_size _ rfl⟩
end
abbrev Sp:=List V→Hp→VK→XK→Prop
abbrev pK:=List Env→Hp→Shared→XK→Value→Shared→Prop
structure Env0 (P:Program) (w:World) (K:W.Frag) (mg:Str→Option Value) (base:Heap) (A:Around) (outer:List Env) (s:Shared) (H:Hp):Prop where
 frames:A.frames=some outer
 mod:Mod K mg base
 bs:∀b o,base.get? b=some o→s.heap.get? b=some o∧H b=none
 bsz:base.objs.size≤s.heap.objs.size
 funs:s.heap.FunFrames base outer
 frf:∀b∈jk outer,H b=none
 hok:HOk P w H s.heap
 bare:AllBare s.gens
def CE(outer:List Env)(P:Program)(w:World)(H:Hp)(s:Shared)(Q:VK)(u:Value)(s':Shared):Prop:=
 ∃v H',s'.os=s.os∧AllBare s'.gens∧Un (jk outer) [] H H' s.heap s'.heap∧HOk P w H' s'.heap∧RelV v u∧Q v H'
def CR(CX:pK)(outer:List Env)(P:Program)(w:World)(H:Hp)(s:Shared)(Q:VK)(E:XK)(r:Result)(s':Shared):Prop:=
 match r with
 | .ok (.ret u)=>CE outer P w H s Q u s'
 | .ok _=>False
 | .error e=>CX outer H s E e s'
structure FnOk (P:Program) (w:World) (K:W.Frag) (mg:Str→Option Value) (base:Heap) (CX:pK) (k:Nat) (f:Addr) (fd:FuncData) (ps:List Str) (sp:Sp):Prop where
 len:∀vs H Q E,sp vs H Q E→vs.length=ps.length
 run:∀(A:Around) (outer:List Env) (s:Shared) (H:Hp) (args:Args) (us:List Value) (vs:List V) (Q:VK) (E:XK),Room k A→Env0 P w K mg base A outer s H→BindsTo s fd args (ps.zip us)→Vals vs us→sp vs H Q E→
  codeAny (model P w) A (.call (.ref f) args) (CR CX outer P w H s Q E) s
theorem FnOk.mono{P:Program}{w:World}{K:W.Frag}{mg:Str→Option Value}{base:Heap}{CX:pK}{j k:Nat}{f:Addr}{fd:FuncData}{ps:List Str}{sp:Sp}(F:FnOk P w K mg base CX j f fd ps sp)(h:j≤k):
 FnOk P w K mg base CX k f fd ps sp:=⟨F.len,fun A outer s H args us vs Q E hr=>F.run A outer s H args us vs Q E (hr.mono h)⟩
section
variable{X:Cx}{pins:List (Addr×Obj)}{σ:St}{H:Hp}{s s':Shared}
theorem Inv.env0(I:Inv X pins σ H s):Env0 X.prog X.w X.K X.mg X.base X.A X.stack s H:=
 ⟨I.ok.frames,I.ok.mod,I.bs,Nat.le_trans I.ok.bsz I.sz,I.stack,I.stkFree,I.hok,I.bare⟩
theorem Inv.after{Q:VK}{u:Value}(I:Inv X pins σ H s)(h:CE X.stack X.prog X.w H s Q u s'):EP X pins σ Q u s':=by
 obtain⟨v,H',os,bare,un,hok,r,q⟩:=h
 obtain⟨hh,g,d,t,ET⟩:=s'
 obtain rfl:ET=s.os:=os
 exact⟨v,H',I.call (h':=hh) (g':=g) (d':=d) (t':=t) (ch:=[]) un hok bare (fun b z=>absurd z (by simp)),r,q⟩
end
def AS(sp:Sp)(xk:List V)(E:XK)(t:TA):TE:=fun σ H Q=>t σ H fun vs H1=>sp (vs++xk) H1 Q E
def Binds(K:W.Frag)(fd:FuncData)(ps:List Str)(ds:List Value):Prop:=
 ∀(s:Shared) (us:List Value),K.In s.heap→(us++ds).length=ps.length→BindsTo s fd ⟨us,[]⟩ (ps.zip (us++ds))
theorem Binds.all{K:W.Frag}{fd:FuncData}{ps:List Str}(h:∀us:List Value,us.length=ps.length→bindArgs fd ⟨us,[]⟩=pure (ps.zip us)):Binds K fd ps []:=fun s us _ hl=>by
 rw[List.append_nil] at hl⊢
 exact .of_eq (h us hl)
def Passes(CX:pK)(X:Cx)(E:XK):Prop:=∀(pins:List (Addr×Obj)) (σ:St) (H:Hp) (s:Shared) (e:Value) (s':Shared),Inv X pins σ H s→CX X.stack H s E e s'→X.xe e s'
section
variable{X:Cx}{CX:pK}{k:Nat}{f C:Addr}{fd:FuncData}{ps:List Str}{sp:Sp}{xk:List V}{ds:List Value}{E:XK}{x m:Str}{p pos apos:Pos}{e o:Expr}{es:List Expr}{ta:TE}{t:TA}
theorem zd{pins:List (Addr×Obj)}{σ:St}{H:Hp}{s:Shared}{Q:VK}{us:List Value}{vs:List V}(F:FnOk X.prog X.w X.K X.mg X.base CX k f fd ps sp)(hr:Room k X.A)(hb:Binds X.K fd ps ds)(hd:Vals xk ds)(hx:Passes CX X E)
 (I:Inv X pins σ H s)(r:Vals vs us)(h:sp (vs++xk) H Q E):wpAny (model X.prog X.w) X.A (call (.ref f) us) (EP X pins σ Q) X.xe s:=by
 have r2:Vals (vs++xk) (us++ds):=r.append hd
 have hl:(us++ds).length=ps.length:=by rw[←r2.length];exact F.len _ _ _ _ h
 refine wpAny_call (codeAny_mono (F.run X.A X.stack s H ⟨us,[]⟩ (us++ds) (vs++xk) Q E hr I.env0 (hb s us I.kIn hl) r2 h) fun r s' hq=>?_)
 cases r with
 |error e=>exact hx pins σ H s e s' I hq
 |ok fl=>
  cases fl with
  |ret u=>exact I.after hq
  |next=>exact False.elim hq
  |brk=>exact False.elim hq
  |cont=>exact False.elim hq
theorem wA(F:FnOk X.prog X.w X.K X.mg X.base CX k f fd ps sp)(hr:Room k X.A)(hg:Gl X x)(hm:X.mg x=some (.ref f))(hk:PySem.W.keepIn X.K (.ref f)=true)(hb:Binds X.K fd ps ds)(hd:Vals xk ds)(hx:Passes CX X E)
 (ha:PA X (e::es) t)(mC:(x==("__debug__":Str))=false:=by decide)(he:starEach (e::es) X.env=(false,eval e X.env)::starEach es X.env:=by rfl)(pJ:(backTo pos (starEach es X.env)).any (·.1)=false:=by rfl):
 PE X (.Call (.Name x p) (e::es) [] pos) (AS sp xk E t):=by
 intro pins s σ H Q I h
 refine wpAny_Call_Name_kw (qY I hg hm ?_ mC)
 refine PySem.W.callWith_K (h₀:=X.base) I.ok.mod.kin hk (bC (ha pos pins s σ H _ I h) fun us s1 ⟨vs,H1,I1,r,q⟩=>⟨I1.kIn,?_⟩) he pJ
 exact zd F hr hb hd hx I1 r q
structure Mk (K:W.Frag) (C f:Addr):Prop where
 makes:PySem.W.makesIn K C=true
 init:PySem.W.findIn K (.ref C) "__init__"=some (some (.ref f))
 fn:PySem.W.isFn K (.ref f)=true
 kp:PySem.W.keepIn K (.ref C)=true
end
section
variable{X:Cx}{CX:pK}{k:Nat}{f C:Addr}{fd:FuncData}{ps ks:List Str}{sp:Sp}{E:XK}{x m:Str}{p pos apos ER:Pos}{e o:Expr}{es:List Expr}{Fl:List Keyword}{te ta:TE}{t tk:TA}{nm:Option Str}
structure KBinds (K:W.Frag) (fd:FuncData) (ps ks:List Str) (g:List Value→List Value→List Value) (gV:List V→List V→List V):Prop where
 to:∀(s:Shared) (us ws:List Value),K.In s.heap→(g us ws).length=ps.length→BindsTo s fd ⟨us,ks.zip ws⟩ (ps.zip (g us ws))
 rel:∀{vs:List V}{us:List Value}{zs:List V}{ws:List Value},Vals vs us→Vals zs ws→Vals (gV vs zs) (g us ws)
variable{g:List Value→List Value→List Value}{gV:List V→List V→List V}
end
structure FnScope (N P:List Str) (sc:Scope):Prop where
 kind:sc.kind= .function
 co:sc.isCoroutine=false
 gen:sc.isGenerator=false
 nd:N.Nodup
 pre:N.take P.length=P
 par:∀x∈P,sc.names.lookup x=some .local∨sc.names.lookup x=some .cell
 nofree:∀y∈sc.names,y.2≠ .free
theorem lb{kindOf:Str→Option NameKind}{x:Str}:∀{binds:List (Str×Value)}{m:Str→Option Value},(∀v,(x,v)∉binds)→bindL kindOf binds m x=m x
 |[],_,_=>rfl
 |(n,v)::r,m,h=>by
  unfold bindL
  rw[lb fun w hw=>h w (List.mem_cons_of_mem _ hw)]
  split
  ·have:x≠n:=by rintro rfl;exact h v List.mem_cons_self
   simp[this]
  ·rfl
theorem k_{kindOf:Str→Option NameKind}{x:Str}:∀{binds:List (Str×Value)}{m:Str→Option Value},(∀v,(x,v)∉binds)→bindC kindOf binds m x=m x
 |[],_,_=>rfl
 |(n,v)::r,m,h=>by
  unfold bindC
  rw[k_ fun w hw=>h w (List.mem_cons_of_mem _ hw)]
  split
  ·rfl
  ·have:x≠n:=by rintro rfl;exact h v List.mem_cons_self
   simp[this]
theorem la{kindOf:Str→Option NameKind}{x:Str}{v:Value}:∀{P:List Str}{vs:List Value}{i:Nat}{m:Str→Option Value},P.Nodup→P[i]? =some x→vs[i]? =some v→kindOf x=some .local→
 bindL kindOf (P.zip vs) m x=some v
 |[],_,_,_,_,h,_,_=>by simp at h
 |_::_,[],_,_,_,_,h,_=>by simp at h
 |p::P,w::vs,0,m,nd,h1,h2,hk=>by
  simp at h1 h2;subst h1;subst h2
  show bindL kindOf ((p,w)::P.zip vs) m p=_
  unfold bindL
  rw[lb fun v hv=>(List.nodup_cons.mp nd).1 (List.of_mem_zip hv).1,if_pos hk]
  simp
 |p::P,w::vs,i+1,m,nd,h1,h2,hk=>by
  show bindL kindOf ((p,w)::P.zip vs) m x=_
  unfold bindL
  exact la (i:=i) (List.nodup_cons.mp nd).2 (by simpa using h1) (by simpa using h2) hk
theorem k9{kindOf:Str→Option NameKind}{x:Str}{v:Value}:∀{P:List Str}{vs:List Value}{i:Nat}{m:Str→Option Value},P.Nodup→P[i]? =some x→vs[i]? =some v→kindOf x≠some .local→
 bindC kindOf (P.zip vs) m x=some v
 |[],_,_,_,_,h,_,_=>by simp at h
 |_::_,[],_,_,_,_,h,_=>by simp at h
 |p::P,w::vs,0,m,nd,h1,h2,hk=>by
  simp at h1 h2;subst h1;subst h2
  show bindC kindOf ((p,w)::P.zip vs) m p=_
  unfold bindC
  rw[k_ fun v hv=>(List.nodup_cons.mp nd).1 (List.of_mem_zip hv).1,if_neg hk]
  simp
 |p::P,w::vs,i+1,m,nd,h1,h2,hk=>by
  show bindC kindOf ((p,w)::P.zip vs) m x=_
  unfold bindC
  exact k9 (i:=i) (List.nodup_cons.mp nd).2 (by simpa using h1) (by simpa using h2) hk
def start(N:List Str)(vs:List V):St:=vs.map some++List.replicate (N.length - vs.length) none
def cb(CX:pK)(P:Program)(w:World)(K:W.Frag)(mg:Str→Option Value)(base:Heap)(N:List Str)(qual:Str)(scope:Scope)(f:Addr)(cd:Value)(A:Around)(outer:List Env)(s:Shared)(H:Hp)(E:XK):Cx where
 prog:=P
 w:=w
 K:=K
 mg:=mg
 base:=base
 A:=A.deeper (envOfC qual scope s.heap.objs.size f cd)
 N:=N
 s₀:=s
 H₀:=H
 env:=envOfC qual scope s.heap.objs.size f cd
 outer:=outer
 stack:=envOfC qual scope s.heap.objs.size f cd::outer
 ex:=[]
 calm:=true
 fn:=fun _=>true
 pn:=[]
 xe:=fun e s'=>wpAny (model P w) (A.deeper (envOfC qual scope s.heap.objs.size f cd)) (leaving (envOfC qual scope s.heap.objs.size f cd) e) (fun _ CH=>CX outer H s E e CH) (fun e' CH=>CX outer H s E e' CH) s'
theorem nX{sc:Scope}{n:Nat}{x:Str}(h:sc.names.lookup x=some .cell):∃c,(cellsFrom n sc.names []).lookup x=some c:=by
 have q:=PySem.W.cellsFrom_some sc.names n [] (.inl h)
 exact Option.isSome_iff_exists.mp q
theorem rV{CX:pK}{P:Program}{w:World}{K:W.Frag}{mg:Str→Option Value}{base:Heap}{N ps:List Str}{qual:Str}{scope:Scope}{f:Addr}{cd:Value}{A:Around}{outer:List Env}{s s1:Shared}{H:Hp}{E:XK}{us:List Value}{vs:List V}
 (S:FnScope N ps scope)(hd:A.handled=none)(e0:Env0 P w K mg base A outer s H)(hl:vs.length=ps.length)(r:Vals vs us)
 (x:InCallC s s.heap.objs.size (bindL (envOfC qual scope s.heap.objs.size f cd).kindOf (ps.zip us) fun _=>none) (cellsFrom (s.heap.objs.size+1) scope.names []) (bindC (envOfC qual scope s.heap.objs.size f cd).kindOf (ps.zip us) fun _=>none) s1):
 Inv (cb CX P w K mg base N qual scope f cd A outer s H E) [] (start N vs) H s1:=by
 have pJ:ps.length≤N.length:=by have:=congrArg List.length S.pre;rw[List.length_take] at this;omega
 obtain⟨h1,tk,rfl,hk⟩:=x.done
 have Am:∀b:Addr,b∉(cb CX P w K mg base N qual scope f cd A outer s H E).ex:=fun b z=>absurd (show b∈([]:List Addr) from z) (by simp)
 refine⟨⟨e0.mod,S.kind,rfl,rfl,Nat.le_refl _,fun y z c h1 h2=>?_,fun y hy=>?_,fun y c _ h=>?_,fun _=>hd,Around.frames_deeper e0.frames, .inr ⟨rfl,rfl⟩,fun b z=>absurd z (Am b),e0.bs,e0.bsz,fun b _ _=>Am b,fun b z=>absurd z (Am b),e0.funs,e0.frf⟩,
  rfl,e0.bare,Un.kept hk,⟨_,x.toInCall.ns,fun i y v h1 h2 h3=>?_⟩,fun y c h=>⟨_,x.cell y c h⟩,e0.hok.fresh (Nat.le_refl _),fun y c h=>?_,fun p hp=>absurd (show p∈([]:List (Addr×Obj)) from hp) (by simp),e0.hok.kept hk,?_⟩
 ·exact name_of_addr x.apart (PySem.mem_of_lookup h1) (PySem.mem_of_lookup h2)
 ·have hy:scope.names.lookup y=some .cell∨scope.names.lookup y=some .free:=hy
  rcases hy with hy | hy
  ·exact nX hy
  ·exact absurd rfl (S.nofree _ (PySem.mem_of_lookup hy))
 ·exact Nat.le_of_lt (x.above y c (PySem.mem_of_lookup h))
 ·have hi:i<vs.length:=by
   unfold start at h2
   by_cases hi:i<vs.length
   ·exact hi
   ·rw[List.getElem?_append_right (by simpa using hi)] at h2
    rw[List.getElem?_replicate] at h2
    split at h2<;>cases h2
  have ha:vs[i]? =some v:=by
   unfold start at h2
   rw[List.getElem?_append_left (by simpa using hi),List.getElem?_map] at h2
   cases e:vs[i]? with
   |none=>rw[e] at h2;cases h2
   |some a=>rw[e] at h2;cases h2;rfl
  obtain⟨u,hu,rv⟩:=r.get ha
  have hp:ps[i]? =some y:=by
   rw[←S.pre,List.getElem?_take_of_lt (by omega)];exact h1
  have DB:ps.Nodup:=by rw[←S.pre];exact S.nd.sublist (List.take_sublist _ _)
  refine⟨u,rv,?_⟩
  rcases S.par y (List.mem_of_getElem? hp) with k | k
  ·exact .inl ⟨k,la DB hp hu k⟩
  ·obtain⟨c,e⟩:=nX (n:=s.heap.objs.size+1) k
   refine .inr ⟨.inl k,c,e,?_⟩
   have q:=x.cell y c e
   rw[k9 DB hp hu (by show scope.names.lookup y≠_;rw[k];decide)] at q
   exact q
 ·exact e0.hok.fresh (Nat.le_of_lt (x.above y c (PySem.mem_of_lookup h)))
 ·unfold start
  show _=N.length
  rw[List.length_append,List.length_map,List.length_replicate]
  omega
theorem zY{CX:pK}{P:Program}{w:World}{K:W.Frag}{mg:Str→Option Value}{base:Heap}{k:Nat}{f:Addr}{name qual:Str}{params:Arguments}{body:List Stmt}{scope:Scope}{dV kV doc pm aY ct oc:Value}{an od:Option Addr}
 {xG:Array (Option Value)}{N ps:List Str}{sp:Sp}(lk:K.lookup f=some ⟨oc,od, .func (PySem.W.fnOf name qual params body scope dV kV doc pm an aY ct),xG⟩)(sV:PySem.W.codeIn K aY qual=true)(S:FnScope N ps scope)
 (len:∀vs H Q E,sp vs H Q E→vs.length=ps.length)
 (oA:∀(A:Around) (outer:List Env) (s:Shared) (H:Hp) (vs:List V) (Q:VK) (E:XK),Room k (A.deeper (envOfC qual scope s.heap.objs.size f aY))→sp vs H Q E→
  ∃t,PSs (cb CX P w K mg base N qual scope f aY A outer s H E) body t∧t {nx:=fun _ H'=>Q .non H',rt:=Q} (start N vs) H):
 FnOk P w K mg base CX (k+1) f (PySem.W.fnOf name qual params body scope dV kV doc pm an aY ct) ps sp:=by
 refine⟨len,fun A outer s H args us vs Q E hr e0 hb r xy=>?_⟩
 have hl:=len _ _ _ _ xy
 have KX:K.In s.heap:=e0.mod.kin.keeps fun b o e=>(e0.bs b o e).1
 have lim:s.heap.NoLimit:=e0.mod.nolimit.keeps fun b o e=>(e0.bs b o e).1
 have z_:∀y∈ps.zip us,scope.names.lookup y.1=some .local∨(scope.names.lookup y.1=some .cell∧((cellsFrom (s.heap.objs.size+1) scope.names []).lookup y.1).isSome=true):=fun⟨n,v⟩ hy=>by
  rcases S.par n (List.of_mem_zip hy).1 with q | q
  ·exact .inl q
  ·exact .inr ⟨q,PySem.W.cellsFrom_some _ _ _ (.inl q)⟩
 refine codeAny_call_function hr.depth (KX _ _ lk) rfl S.co S.gen rfl (PySem.W.codeRec_of KX sV) (hb _ _ _ _ ?_)
 refine wpAny_newFunctionEnv_cells S.kind z_ fun env he s1 x=>?_
 subst he
 refine⟨lim.keeps x.toInCall.keep,codeAny_func ?_⟩
 obtain⟨t,ht,hq⟩:=oA A outer s H vs Q E (hr.deeper _) xy
 have I:Inv (cb CX P w K mg base N qual scope f aY A outer s H E) [] (start N vs) H s1:=rV S hr.hd e0 hl r x
 refine wpAny_mono (ht [] s1 (start N vs) H _ I hq) (fun fl s' hs=>?_) fun e s' hs=>hs
 have fin:∀{σ':St}{H':Hp}{v:V}{u:Value},Inv (cb CX P w K mg base N qual scope f aY A outer s H E) [] σ' H' s'→RelV v u→Q v H'→CE outer P w H s Q u s':=
  fun {σ' H' v u} J rv q=>⟨v,H',J.os,J.bare,J.base,J.hok,rv,q⟩
 cases fl with
 |ret u=>
  obtain⟨v,σ',H',J,rv,q⟩:=hs
  exact fin J rv q
 |next=>
  obtain⟨σ',H',J,q⟩:=hs
  exact fin (v:=V.non) (u:=Value.none) J rfl q
 |brk=>
  obtain⟨_,_,_,q⟩:=hs
  exact False.elim q
 |cont=>
  obtain⟨_,_,_,q⟩:=hs
  exact False.elim q
section
variable{X:Cx}{x:Str}{p pos:Pos}{e:Expr}{es:List Expr}{t:TA}{id T:String}{r:List V→Hp→VK→Prop}
def CM(r:List V→Hp→VK→Prop)(t:TA):TE:=fun σ H Q=>t σ H fun vs H1=>r vs H1 Q
theorem uI(hc:CallR X (.builtin id) r)(hg:Gl X x)(hm:X.mg x=none)(hv:bootBuiltins x=some (.builtin id))(ha:PA X (e::es) t)(hn:x≠"__name__":=by decide)(mC:(x==("__debug__":Str))=false:=by decide)
 (he:starEach (e::es) X.env=(false,eval e X.env)::starEach es X.env:=by rfl)(pJ:(backTo pos (starEach es X.env)).any (·.1)=false:=by rfl):PE X (.Call (.Name x p) (e::es) [] pos) (CM r t):=by
 intro pins s σ H Q I h
 refine wpAny_Call_Name_kw (mH I hg hm hv ?_ hn mC)
 exact PyProof.Rows.callWith_builtin1 (bC (ha pos pins s σ H _ I h) fun us s1 ⟨vs,H1,I1,r1,q1⟩=>hc pins s1 σ H1 vs us Q I1 r1 q1) he pJ
theorem sD(hc:CallR X (.type T) r)(hg:Gl X x)(hm:X.mg x=none)(hv:bootBuiltins x=some (.type T))(ha:PA X (e::es) t)(hn:x≠"__name__":=by decide)(mC:(x==("__debug__":Str))=false:=by decide)
 (he:starEach (e::es) X.env=(false,eval e X.env)::starEach es X.env:=by rfl)(pJ:(backTo pos (starEach es X.env)).any (·.1)=false:=by rfl):PE X (.Call (.Name x p) (e::es) [] pos) (CM r t):=by
 intro pins s σ H Q I h
 refine wpAny_Call_Name_kw (mH I hg hm hv ?_ hn mC)
 exact PyProof.Rows.callWith_type1 (bC (ha pos pins s σ H _ I h) fun us s1 ⟨vs,H1,I1,r1,q1⟩=>hc pins s1 σ H1 vs us Q I1 r1 q1) he pJ
end
end L2
namespace HT
open PySem PyProof.Rows
section
open PySem.SeqAt
open PySem.AutoSeq1 (wpAny_loadPart')
open PySem.MeetsSeq PySem.MeetsSeq2 PySem.MeetsSeq3
end
section
variable{prog:Program}{w:World}{A:Around}{E:Value→Shared→Prop}{s:Shared}
theorem cat_tup{t b:Addr}{vs ws:List Value}{Q:Value→Shared→Prop}(ht:IsTup s.heap t vs.toArray)(hb:IsTup s.heap b ws.toArray)(hv:vs≠[])
 (h1:ws=[]→Q (.ref t) s)(h2:ws≠[]→Q (.ref s.heap.objs.size) {s with heap:=s.heap.push {cls:= .type "tuple",data:= .seq (vs++ws).toArray} })
 (hsz:vs.length+ws.length≤sizeLine):wpAny (model prog w) A (binaryOp .Add (.ref t) (.ref b)) Q E s:=by
 obtain⟨⟨cls,dd,data,sl⟩,ho,hc,n,hd⟩:=id ht
 obtain⟨⟨BC,A8,data2,Bm⟩,yn,yg,n2,hd2⟩:=id hb
 simp only at hc hd yg hd2
 subst hc hd yg hd2
 have e:vs.toArray++ws.toArray=(vs++ws).toArray:=by simp
 by_cases hw:ws=[]
 ·exact concat_meets ⟨_,ho,rfl⟩ ⟨_,yn,rfl⟩ noFill_tuple_add seq_tuple_add PySem.F.slot_tuple_add PySem.F.entry_tuple_add (PySem.F.args_tuple_add_2 _ _)
   (tuple_addW1 t b vs.toArray ws.toArray n n2 dd A8 sl Bm (by simpa using hv) (by simp[hw])) ⟨ho,yn,h1 hw⟩
 ·refine concat_meets ⟨_,ho,rfl⟩ ⟨_,yn,rfl⟩ noFill_tuple_add seq_tuple_add PySem.F.slot_tuple_add PySem.F.entry_tuple_add (PySem.F.args_tuple_add_2 _ _)
   (tuple_addW2 t b vs.toArray ws.toArray n n2 dd A8 sl Bm (by simpa using hv) (by simpa using hw) (by rw[List.size_toArray,List.size_toArray];exact hsz)) ⟨ho,yn,?_⟩
  rw[e]
  exact h2 hw
def sIx(n d:Nat):Option Int→Nat
 |none=>d
 |some v=>if v<0 then(v+(n:Int)).toNat else min v.toNat n
theorem sIx_none(n d:Nat):sIx n d none=d:=rfl
theorem sIx_nat(n d k:Nat):sIx n d (some (k:Int))=min k n:=by
 show (if (k:Int)<0 then((k:Int)+(n:Int)).toNat else min (k:Int).toNat n)=min k n
 rw[if_neg (by omega),Int.toNat_natCast]
theorem sIx_le(n d:Nat)(hd:d≤n)(o:Option Int):sIx n d o≤n:=by
 cases o with
 |none=>exact hd
 |some v=>
  show (if v<0 then(v+(n:Int)).toNat else min v.toNat n)≤n
  by_cases hv:v<0
  ·rw[if_pos hv];omega
  ·rw[if_neg hv];exact Nat.min_le_right _ _
theorem clip_eq(v:Int)(n d:Nat):(if v<0 then max (v+(n:Int)) 0 else min v (n:Int))=((sIx n d (some v):Nat):Int):=by
 show (if v<0 then max (v+(n:Int)) 0 else min v (n:Int))=(((if v<0 then(v+(n:Int)).toNat else min v.toNat n):Nat):Int)
 by_cases hv:v<0
 ·simp only[if_pos hv];omega
 ·simp only[if_neg hv];omega
theorem adjust_gen(lo hi:Option Int)(n:Nat):Builtin.Slice.sliceAdjust lo hi 1 (n:Int)=(((sIx n 0 lo:Nat):Int),((sIx n n hi:Nat):Int)):=by
 have h1:¬((1:Int)<0):=by omega
 unfold Builtin.Slice.sliceAdjust
 simp only[h1,if_false]
 refine Prod.ext ?_ ?_
 ·cases lo with
  |none=>rfl
  |some v=>exact clip_eq v n 0
 ·cases hi with
  |none=>rfl
  |some v=>exact clip_eq v n n
theorem places_gen(i j:Nat):Builtin.Slice.slicePlaces (i:Int) (j:Int) 1=j - i:=by
 unfold Builtin.Slice.slicePlaces
 have h1:(1:Int)>0:=by omega
 simp only[h1,if_true,Int.ediv_one]
 split<;>omega
theorem slicePart_{v:Value}{o:Option Int}{Q:Option Int→Shared→Prop}(p:IsPart v o)(h:Q o s):wpAny (model prog w) A (Builtin.Slice.slicePartIndex v) Q E s:=by
 cases p with
 |none=>exact slicePart_none h
 |int i t=>exact slicePart_int h
theorem sliceApplied_gen{sl:Addr}{vl vu:Value}{lo hi:Option Int}{n:Nat}{Q:Int×Int×Nat→Shared→Prop}(hs:s.heap.IsSliceOf sl vl vu .none)(pl:IsPart vl lo)(pu:IsPart vu hi)
 (h:Q (((sIx n 0 lo:Nat):Int),1,sIx n n hi - sIx n 0 lo) s):wpAny (model prog w) A (Builtin.Slice.sliceApplied (.ref sl) (pure (n:Int))) Q E s:=by
 obtain⟨os,tV,Bb,xq⟩:=id hs
 unfold Builtin.Slice.sliceApplied Builtin.Slice.sliceFields
 refine wpAny_bind (wpAny_bind (wpAny_field tV xq (x:=vl) rfl (wpAny_bind (wpAny_field tV xq (x:=vu) rfl (wpAny_bind (wpAny_field tV xq (x:= .none) rfl (wpAny_pure ?_)))))))
 refine wpAny_bind (slicePart_none ?_)
 show wpAny _ _ (if ((1:Int)==0)=true then _ else _) _ _ s
 rw[if_neg (by decide)]
 refine wpAny_bind (slicePart_ pl (wpAny_bind (slicePart_ pu (wpAny_bind (wpAny_pure ?_)))))
 show wpAny _ _ (match Builtin.Slice.sliceAdjust lo hi 1 (n:Int) with | (lo,hi)=>pure (lo,(1:Int),Builtin.Slice.slicePlaces lo hi 1)) _ _ s
 rw[adjust_gen lo hi n]
 show wpAny _ _ (pure (((sIx n 0 lo:Nat):Int),(1:Int),Builtin.Slice.slicePlaces ((sIx n 0 lo:Nat):Int) ((sIx n n hi:Nat):Int) 1)) _ _ s
 rw[places_gen]
 exact wpAny_pure h
theorem pick_gen(xs:Array Value)(i k:Nat):((List.range k).filterMap fun(m:Nat)=>xs[((i:Int)+(m:Int)*1).toNat]?).toArray=((xs.toList.drop i).take k).toArray:=by
 have e:(fun (m:Nat)=>xs[((i:Int)+(m:Int)*1).toNat]?)=fun m=>xs[i+m]? :=by
  funext m
  have:((i:Int)+(m:Int)*1).toNat=i+m:=by omega
  rw[this]
 rw[e]
 have:=pick_run xs i k
 rw[List.filterMap_map] at this
 have e2:((fun x=>xs[x]?)∘fun x=>i+x)=fun m=>xs[i+m]? :=rfl
 rw[e2] at this
 rw[this]
theorem getItem_tuple_cut{t sl:Addr}{items:Array Value}{vl vu:Value}{lo hi:Option Int}{Q:Value→Shared→Prop}(ht:IsTup s.heap t items)(hs:s.heap.IsSliceOf sl vl vu .none)(pl:IsPart vl lo)(pu:IsPart vu hi)
 (hw:¬(sIx items.size 0 lo=0∧sIx items.size items.size hi=items.size))
 (h:Q (.ref s.heap.objs.size) {s with heap:=s.heap.push {cls:= .type "tuple",data:= .seq ((items.toList.drop (sIx items.size 0 lo)).take (sIx items.size items.size hi - sIx items.size 0 lo)).toArray} })
 (hsz:items.size≤sizeLine):wpAny (model prog w) A (getItem (.ref t) (.ref sl)) Q E s:=by
 have qT:sizeOk (.seq ((items.toList.drop (sIx items.size 0 lo)).take (sIx items.size items.size hi - sIx items.size 0 lo)).toArray):=by
  show ((items.toList.drop (sIx items.size 0 lo)).take (sIx items.size items.size hi - sIx items.size 0 lo)).toArray.size≤sizeLine
  rw[List.size_toArray,List.length_take,List.length_drop,Array.length_toList]
  omega
 have hj:sIx items.size items.size hi≤items.size:=sIx_le _ _ (Nat.le_refl _) hi
 obtain⟨os,tV,Bb,xq⟩:=id hs
 have BO:s.TypeIs (.ref sl) "slice":=⟨os,tV,Bb⟩
 unfold getItem
 try with_reducible refine wpAny_holding ?_
 first | refine wpAny_bind (wpAny_pure ?_) | skip
 refine wpAny_bind (wpAny_sequenceKey ht.typeIs (by decide) ?_)
 refine wpAny_bind (wpAny_callSpecial?_slot (name:=Str.ofString "__getitem__") ht.typeIs PyProof.Rows.slot_tuple_getitem
  (wpAny_call_entry PyProof.Rows.slot_tuple_getitem ht.typeIs entry_tuple_getitem ?_ (args_tuple_getitem _ _)))
 show wpAny _ _ (Builtin.Tuple.tupleItemsOf (.ref t)>>=_) _ _ s
 refine wpAny_bind (tupleItemsOf_ ht ?_)
 refine wpAny_bind (wpAny_typeOf BO ?_)
 rw[if_pos (by decide)]
 refine wpAny_bind (sliceApplied_gen hs pl pu ?_)
 have yl:¬((((sIx items.size 0 lo:Nat):Int)==0&&(1:Int)==1&&(sIx items.size items.size hi - sIx items.size 0 lo)==items.size)=true):=by
  intro q
  rw[Bool.and_eq_true,Bool.and_eq_true] at q
  have q1:((sIx items.size 0 lo:Nat):Int)=0:=eq_of_beq q.1.1
  have q2:sIx items.size items.size hi - sIx items.size 0 lo=items.size:=eq_of_beq q.2
  exact hw ⟨by omega,by omega⟩
 show wpAny _ _ (if (((sIx items.size 0 lo:Nat):Int)==0&&(1:Int)==1&&(sIx items.size items.size hi - sIx items.size 0 lo)==items.size)=true then _ else _) _ _ s
 rw[if_neg yl,pick_gen]
 first
  |exact wpAny_bind (m:=Builtin.Tuple.tupleExact _) (wpAny_newObj_type (wpAny_pure ⟨_,rfl,wpAny_pure h⟩) qT)
  |exact wpAny_bind (m:=Builtin.Tuple.tupleExact _) (wpAny_newObj_type (wpAny_bind (wpAny_pure (wpAny_pure ⟨_,rfl,wpAny_pure h⟩))) qT)
  |exact wpAny_bind (wpAny_bind (m:=Builtin.Tuple.tupleExact _) (wpAny_newObj_type (wpAny_pure (wpAny_pure ⟨_,rfl,wpAny_pure h⟩)) qT))
  |exact wpAny_bind (wpAny_bind (m:=Builtin.Tuple.tupleExact _) (wpAny_newObj_type (wpAny_pure ⟨_,rfl,wpAny_pure h⟩) qT))
end
end HT
namespace L2
open PySem PySem.Spec PyProof.Rows
abbrev TO:=St→Hp→(Option Int→Hp→Prop)→Prop
def PO(X:Cx)(e:Option Expr)(t:TO):Prop:=
 ∀(pins:List (Addr×Obj)) (s:Shared) (σ:St) (H:Hp) (Q:Option Int→Hp→Prop),Inv X pins σ H s→t σ H Q→
  wpAny (model X.prog X.w) X.A (evalPart e X.env) (fun u s'=>∃o H',Inv X pins σ H' s'∧IsPart u o∧Q o H') X.xe s
def w4:TO:=fun _ H Q=>Q none H
def AX(t:TE):TO:=fun σ H Q=>t σ H fun x H1=>∃i,x= .int i∧Q (some i) H1
theorem intsAre_of{ns:List Int}:∀{us:List Value},Vals (ns.map V.int) us→IntsAre us ns:=by
 induction ns with
 |nil=>intro us r;rw[List.map_nil] at r;cases r;exact .nil
 |cons n ns ih=>
  intro us r
  rw[List.map_cons] at r
  cases r with
  |cons r1 r2=>
   obtain⟨t,e⟩:=r1
   subst e
   exact .cons n t (ih r2)
section
variable{X:Cx}{e:Expr}{te:TE}{lo hi:Option Expr}{tl th:TO}{pos p2:Pos}
theorem wG:PO X none w4:=by
 intro pins s σ H Q I h
 rw[evalPart_none]
 exact wpAny_pure ⟨none,H,I, .none,h⟩
theorem wH(h:PE X e te):PO X (some e) (AX te):=by
 intro pins s σ H Q I hw
 rw[evalPart_some]
 refine bC (h pins s σ H _ I hw) fun u s1 ⟨x,H1,I1,r1,q1⟩=>?_
 obtain⟨i,rfl,q⟩:=q1
 obtain⟨t,rfl⟩:=r1
 exact⟨some i,H1,I1, .int i t,q⟩
def SlR(X:Cx)(r:V→Option Int→Option Int→Hp→VK→Prop):Prop:=
 ∀(pins:List (Addr×Obj)) (s:Shared) (σ:St) (H:Hp) (x:V) (v vl vu:Value) (lo hi:Option Int) (sl:Addr) (Q:VK),Inv X pins σ H s→RelV x v→s.heap.IsSliceOf sl vl vu .none→IsPart vl lo→IsPart vu hi→r x lo hi H Q→
  ∃T id,typeLookup (.type T) "__getitem__"=pure (some (.builtin id))∧s.TypeIs v T∧wpAny (model X.prog X.w) X.A (getItem v (.ref sl)) (EP X pins σ Q) X.xe s
theorem SlR.or{r r':V→Option Int→Option Int→Hp→VK→Prop}(h:SlR X r)(h':SlR X r'):SlR X (fun x lo hi H Q=>r x lo hi H Q∨r' x lo hi H Q):=by
 intro pins s σ H x v vl vu lo hi sl Q I rx hs pl pu q
 rcases q with q | q
 ·exact h pins s σ H x v vl vu lo hi sl Q I rx hs pl pu q
 ·exact h' pins s σ H x v vl vu lo hi sl Q I rx hs pl pu q
def EZ(r:V→Option Int→Option Int→Hp→VK→Prop)(te:TE)(tl th:TO):TE:=fun σ H Q=>te σ H fun x H1=>tl σ H1 fun l H2=>th σ H2 fun u H3=>r x l u H3 Q
theorem uO{r:V→Option Int→Option Int→Hp→VK→Prop}(hr:SlR X r)(he:PE X e te)(hl:PO X lo tl)(hu:PO X hi th):PE X (.Subscript e (.Slice lo hi none p2) pos) (EZ r te tl th):=by
 intro pins s σ H Q I h
 refine Subscript_ (bC (he pins s σ H _ I h) fun v s1 ⟨x,H1,I1,r1,q1⟩=>?_)
 refine wpAny_Slice (bC (hl pins s1 σ H1 _ I1 q1) fun vl s2 ⟨l,H2,I2,pl,q2⟩=>bC (hu pins s2 σ H2 _ I2 q2) fun vu s3 ⟨u,H3,I3,pu,q3⟩=>?_)
 rw[evalPart_none]
 refine wpAny_pure ?_
 have I4:Inv X pins σ H3 {s3 with heap:=s3.heap.push {cls:= .type "slice",data:= .fields #[vl,vu, .none]} }:=I3.kept (t':=s3.toks) fun b ob q=>Heap.get?_push_of_some _ q
 obtain⟨T,id,hT,ht,hg⟩:=hr pins {s3 with heap:=s3.heap.push {cls:= .type "slice",data:= .fields #[vl,vu, .none]} } σ H3 x v vl vu l u s3.heap.objs.size Q I4 r1 (Heap.IsSliceOf.new ..) pl pu q3
 show wpAny (model X.prog X.w) X.A (subscriptTail e (.Slice lo hi none p2) v (.ref s3.heap.objs.size)) (EP X pins σ Q) X.xe {s3 with heap:=s3.heap.push {cls:= .type "slice",data:= .fields #[vl,vu, .none]} }
 exact tail_any (ops:=[.ref s3.heap.objs.size,v]) ht hT hg (by with_unfolding_all rfl)
def n6(xs:List V)(lo hi:Option Int):List V:=(xs.drop (HT.sIx xs.length 0 lo)).take (HT.sIx xs.length xs.length hi - HT.sIx xs.length 0 lo)
theorem iD(xs:List V)(lo hi:Option Int):(n6 xs lo hi).length≤xs.length:=by
 unfold n6
 rw[List.length_take,List.length_drop]
 omega
def CG(K:W.Frag):V→Option Int→Option Int→Hp→VK→Prop:=fun x lo hi H Q=>∃a xs,x= .ref a∧SqT K H a xs∧
 ¬(HT.sIx xs.length 0 lo=0∧HT.sIx xs.length xs.length hi=xs.length)∧∀p,H p=none→Q (.ref p) (upd H p (.tup (n6 xs lo hi)))
theorem zi:SlR X (CG X.K):=by
 intro pins s σ H x v vl vu lo hi sl Q I rx hs pl pu h
 obtain⟨a,xs,rfl,hx,hw,q⟩:=h
 cases rx
 obtain⟨aH,r,ht,hz⟩:=I.tuple hx
 have hlen:aH.toArray.size=xs.length:=by rw[List.size_toArray];exact r.length.symm
 refine⟨"tuple",_,PyProof.Rows.slot_tuple_getitem.lookup,ht.typeIs,?_⟩
 refine HT.getItem_tuple_cut ht hs pl pu (by rw[hlen];exact hw) ?_ (by rw[hlen];exact hz)
 rw[hlen]
 refine⟨.ref s.heap.objs.size,_,I.laid (t':=s.toks) (o:= .tup (n6 xs lo hi)) (fun b ob q=>Heap.get?_push_of_some _ q) (Nat.le_refl _) ?_,rfl,q _ (I.hok.fresh (Nat.le_refl _))⟩
 exact⟨Nat.le_trans (iD xs lo hi) hz,_,(r.drop (HT.sIx xs.length 0 lo)).take (HT.sIx xs.length xs.length hi - HT.sIx xs.length 0 lo),IsTup.new _ _⟩
def AE(K:W.Frag):R2:=fun x y H Q=>∃a b xs ys,x= .ref a∧y= .ref b∧SqT K H a xs∧SqT K H b ys∧xs≠[]∧xs.length+ys.length≤sizeLine∧
 (ys=[]→Q (.ref a) H)∧(ys≠[]→∀p,H p=none→Q (.ref p) (upd H p (.tup (xs++ys))))
theorem Vals.nil_iff{xs:List V}{us:List Value}(r:Vals xs us):us=[]↔xs=[]:=by
 cases r with
 |nil=>simp
 |cons _ _=>simp
theorem v7:OpR X (binaryOp .Add) (AE X.K):=by
 intro pins s σ H x y v u Q I rx ry h
 obtain⟨a,b,xs,ys,rfl,rfl,ha,hb,hx,hz,q1,q2⟩:=h
 cases rx
 cases ry
 obtain⟨aH,r1,p1,_⟩:=I.tuple ha
 obtain⟨dR,r2,p2,_⟩:=I.tuple hb
 refine HT.cat_tup p1 p2 (fun z=>hx (r1.nil_iff.mp z)) (fun z=>⟨.ref a,H,I,rfl,q1 (r2.nil_iff.mp z)⟩) (fun z=>?_) (by rw[←r1.length,←r2.length];exact hz)
 refine⟨.ref s.heap.objs.size,_,I.laid (t':=s.toks) (o:= .tup (xs++ys)) (fun b ob q=>Heap.get?_push_of_some _ q) (Nat.le_refl _) ?_,rfl,q2 (fun w=>z (r2.nil_iff.mpr w)) _ (I.hok.fresh (Nat.le_refl _))⟩
 exact⟨by rw[List.length_append];exact hz,_,r1.append r2,IsTup.new _ _⟩
end
def t5(n:Nat)(i:Int):Option Nat:=if 0≤i then(if i<n then some i.toNat else none) else if -(n:Int)≤i then some (i+n).toNat else none
def atI{α:Type}(xs:List α)(i:Int):Option α:=(t5 xs.length i).bind fun j=>xs[j]?
theorem vP{n:Nat}{i:Int}{j:Nat}(h:t5 n i=some j):seqIndex? i n=some j∧j<n∧ -(n:Int)≤i∧i<n:=by
 unfold t5 at h
 by_cases h0:0≤i
 ·rw[if_pos h0] at h
  by_cases h1:i<n
  ·rw[if_pos h1] at h
   have e:i.toNat=j:=Option.some.inj h
   exact⟨by rw[seqIndex_of h0 h1,e],by omega,by omega,h1⟩
  ·rw[if_neg h1] at h;cases h
 ·rw[if_neg h0] at h
  by_cases h1: -(n:Int)≤i
  ·rw[if_pos h1] at h
   have e:(i+n).toNat=j:=Option.some.inj h
   exact⟨by rw[seqIndex_neg (by omega) h1,e],by omega,h1,by omega⟩
  ·rw[if_neg h1] at h;cases h
theorem mi{α:Type}{xs:List α}{i:Int}{v:α}(h:atI xs i=some v):∃j,seqIndex? i xs.length=some j∧xs[j]? =some v∧j<xs.length∧ -(xs.length:Int)≤i∧i<xs.length:=by
 unfold atI at h
 cases e:t5 xs.length i with
 |none=>rw[e] at h;cases h
 |some j=>
  rw[e] at h
  obtain⟨h1,h2,h3,h4⟩:=vP e
  exact⟨j,h1,h,h2,h3,h4⟩
theorem nU{α:Type}(xs:List α)(v:α):atI (xs++[v]) (-1)=some v:=by
 have hl:(xs++[v]).length=xs.length+1:=by simp
 have e:t5 (xs++[v]).length (-1)=some xs.length:=by
  unfold t5
  rw[hl,if_neg (by decide),if_pos (by omega)]
  congr 1
  omega
 unfold atI
 rw[e]
 show (xs++[v])[xs.length]? =some v
 simp
def fk(b:Expr):Prop:=∀o i,subscripted b false o i=operate [o,i] (getItem o i)
def zE(X:Cx)(r:R2):Prop:=
 ∀(value slice:Expr) (pins:List (Addr×Obj)) (s:Shared) (σ:St) (H:Hp) (x y:V) (v u:Value) (Q:VK),Inv X pins σ H s→RelV x v→RelV y u→r x y H Q→
  subscripted slice false v u=operate [v,u] (getItem v u)→wpAny (model X.prog X.w) X.A (subscriptTail value slice v u) (EP X pins σ Q) X.xe s
def A4(X:Cx)(id:String)(r:V→List V→Hp→VK→Prop):Prop:=
 ∀(pins:List (Addr×Obj)) (s:Shared) (σ:St) (H:Hp) (x:V) (xs:List V) (v:Value) (us:List Value) (Q:VK),Inv X pins σ H s→RelV x v→Vals xs us→r x xs H Q→
  wpAny (model X.prog X.w) X.A (call (.builtin id) (v::us)) (EP X pins σ Q) X.xe s
section
variable{X:Cx}{a b:Expr}{ta tb:TE}{pos:Pos}
theorem Aw{r:R2}(hr:zE X r)(ha:PE X a ta)(hb:PE X b tb)(hs:fk b):PE X (.Subscript a b pos) (AW r ta tb):=by
 intro pins s σ H Q I h
 exact Subscript_ (xR ha hb I h fun v u s2 x y H2 I2 rx ry q=>hr a b pins s2 σ H2 x y v u Q I2 rx ry q (hs _ _))
def zc(K:W.Frag):R2:=fun x y H Q=>∃p xs i v,x= .ref p∧y= .int i∧SqL K H p xs∧atI xs i=some v∧Q v H
def AJ(K:W.Frag):R2:=fun x y H Q=>∃p xs i v,x= .ref p∧y= .int i∧SqT K H p xs∧atI xs i=some v∧Q v H
def AI:R2:=fun x y H Q=>∃z i c,x= .str z∧y= .int i∧z.length≤sizeLine∧atI z.cps.toList i=some c∧Q (.str ⟨#[c]⟩) H
theorem qW:zE X (zc X.K):=by
 intro value slice pins s σ H x y v u Q I rx ry h hs
 obtain⟨p,xs,i,z,rfl,rfl,hq,he,q⟩:=h
 cases rx
 obtain⟨t,rfl⟩:=ry
 obtain⟨aH,r,pl,hz⟩:=I.list hq
 obtain⟨j,h1,h2,h3,h4,h5⟩:=mi he
 obtain⟨w,ew,vq⟩:=r.get h2
 have hl:=r.length
 have hn:=ie
 have fin:EP X pins σ Q w s:=⟨z,H,I,vq,q⟩
 by_cases h0:0≤i
 ·have hj:i.toNat=j:=by
   rw[seqIndex_of h0 h5] at h1
   exact Option.some.inj h1
  exact item_listR pl.isList h0 (by omega) (by rw[hj];simpa using ew) fin hs
 ·have hj:(i+(aH.toArray.size:Int)).toNat=j:=by
   rw[seqIndex_neg (by omega) h4] at h1
   rw[List.size_toArray,←hl]
   exact Option.some.inj h1
  exact subscriptTail_builtinR (x:=w) pl.isList.typeIs slot_list_getitem.lookup
   (wpAny_getItem_list_neg (Q:=fun r s'=>r=w∧EP X pins σ Q r s') pl.isList (by omega) (by rw[List.size_toArray]<;>omega) (by omega) (by rw[hj];simpa using ew) ⟨rfl,fin⟩) hs
theorem yx:zE X (AJ X.K):=by
 intro value slice pins s σ H x y v u Q I rx ry h hs
 obtain⟨p,xs,i,z,rfl,rfl,hq,he,q⟩:=h
 cases rx
 obtain⟨t,rfl⟩:=ry
 obtain⟨aH,r,pl,hz⟩:=I.tuple hq
 obtain⟨j,h1,h2,h3,h4,h5⟩:=mi he
 obtain⟨w,ew,vq⟩:=r.get h2
 have hl:=r.length
 have hn:=ie
 have fin:EP X pins σ Q w s:=⟨z,H,I,vq,q⟩
 exact subscriptTail_builtinR (x:=w) pl.typeIs slot_tuple_getitem.lookup
  (getItem_tuple (j:=j) (Q:=fun r s'=>r=w∧EP X pins σ Q r s') pl (by omega) (by omega) (by rw[List.size_toArray,←hl];exact h1) (by simpa using ew) ⟨rfl,fin⟩) hs
theorem yw:zE X AI:=by
 intro value slice pins s σ H x y v u Q I rx ry h hs
 obtain⟨z,i,c,rfl,rfl,hz,he,q⟩:=h
 obtain⟨t,rfl⟩:=rx
 obtain⟨t',rfl⟩:=ry
 obtain⟨j,h1,h2,h3,h4,h5⟩:=mi he
 have hl:z.cps.toList.length=z.length:=by simp[Str.length]
 rw[hl] at h1 h4 h5
 have hn:=ie
 exact tail_any (typeIs_str s z t) slot_str_getitem.lookup (getItem_str (c:=c) (by
  have e1:decide (i< -(2 ^ 63:Int))=false:=decide_eq_false (by omega)
  have e2:decide (i≥2 ^ 63)=false:=decide_eq_false (by omega)
  rw[e1,e2,Bool.or_false]) (by rw[h1];simpa using h2) ⟨.str ⟨#[c]⟩,H,I.tok _,⟨_,rfl⟩,q⟩) hs
theorem nk(lo hi:Option Int)(n:Nat):(sliceBounds lo hi none n).1=((HT.sIx n 0 lo:Nat):Int)∧(sliceBounds lo hi none n).2.1=((HT.sIx n n hi:Nat):Int)∧(sliceBounds lo hi none n).2.2=1:=by
 refine⟨?_,?_,rfl⟩
 ·cases lo with
  |none=>simp[sliceBounds,HT.sIx]
  |some i=>
   simp only[sliceBounds,HT.sIx,Option.getD_none,show (1:Int)>0 by decide,if_true]
   by_cases h:i<0
   ·simp only[h,if_true]<;>omega
   ·simp only[h,if_false]<;>omega
 ·cases hi with
  |none=>simp[sliceBounds,HT.sIx]
  |some i=>
   simp only[sliceBounds,HT.sIx,Option.getD_none,show (1:Int)>0 by decide,if_true]
   by_cases h:i<0
   ·simp only[h,if_true]<;>omega
   ·simp only[h,if_false]<;>omega
theorem kU(aH:List Value)(lo hi:Option Int):slicePick aH.toArray lo hi none=((aH.drop (HT.sIx aH.length 0 lo)).take (HT.sIx aH.length aH.length hi - HT.sIx aH.length 0 lo)).toArray:=by
 obtain⟨h1,h2,h3⟩:=nk lo hi aH.toArray.size
 unfold slicePick
 rw[h1,h2,h3]
 simp only[sliceRange_one,pick_run,List.size_toArray]<;>rfl
def CF(K:W.Frag):V→Option Int→Option Int→Hp→VK→Prop:=fun x lo hi H Q=>∃a xs,x= .ref a∧SqL K H a xs∧∀p,H p=none→Q (.ref p) (upd H p (.lst (n6 xs lo hi)))
theorem wW:SlR X (CF X.K):=by
 intro pins s σ H x v vl vu lo hi sl Q I rx hs pl pu h
 obtain⟨a,xs,rfl,hx,q⟩:=h
 cases rx
 obtain⟨aH,r,ht,hz⟩:=I.list hx
 have hlen:=r.length
 refine⟨"list",_,slot_list_getitem.lookup,ht.isList.typeIs,?_⟩
 refine wpAny_getItem_list_slice ht.isList hs pl pu .none (by simp) ?_ (by rw[List.size_toArray]<;>omega)
 rw[kU,←hlen]
 refine⟨.ref s.heap.objs.size,_,I.laid (t':=s.toks) (o:= .lst (n6 xs lo hi)) (fun b ob q=>Heap.get?_push_of_some _ q) (Nat.le_refl _) ?_,rfl,q _ (I.hok.fresh (Nat.le_refl _))⟩
 exact⟨Nat.le_trans (iD xs lo hi) hz,_,0,(r.drop (HT.sIx xs.length 0 lo)).take (HT.sIx xs.length xs.length hi - HT.sIx xs.length 0 lo),Heap.get?_push_size _ rfl⟩
theorem mj:CallR X (.builtin "len") (fun xs H Q=>∃p ys,xs=[.ref p]∧(SqL X.K H p ys∨SqT X.K H p ys)∧Q (.int ys.length) H):=by
 intro pins s σ H xs us Q I r h
 obtain⟨p,ys,rfl,hq,q⟩:=h
 obtain⟨u,rfl,rx⟩:=vals1 r
 cases rx
 have hn:=ie
 rcases hq with hq | hq
 ·obtain⟨aH,r',pl,hz⟩:=I.list hq
  have hlen:=r'.length
  exact Calls.call_len_list pl.isList (by simp only[List.size_toArray]<;>omega) ⟨.int ys.length,H,I.tok _,⟨s.toks+1,by rw[List.size_toArray,hlen]⟩,q⟩
 ·obtain⟨aH,r',pl,hz⟩:=I.tuple hq
  have hlen:=r'.length
  exact len_tuple pl (by simp only[List.size_toArray]<;>omega) ⟨.int ys.length,H,I.tok _,⟨s.toks+1,by rw[List.size_toArray,hlen]⟩,q⟩
theorem ml:CallR X (.builtin "len") (fun xs H Q=>∃z,xs=[.str z]∧z.length≤sizeLine∧Q (.int z.length) H):=by
 intro pins s σ H xs us Q I r h
 obtain⟨z,rfl,hz,q⟩:=h
 obtain⟨u,rfl,t,rfl⟩:=vals1 r
 have hn:=ie
 exact len_str (by omega) ⟨.int z.length,H,I.tok _,⟨_,rfl⟩,q⟩
theorem CallR.or{f:Value}{r r':List V→Hp→VK→Prop}(h:CallR X f r)(h':CallR X f r'):CallR X f (fun xs H Q=>r xs H Q∨r' xs H Q):=by
 intro pins s σ H xs us Q I rs q
 rcases q with q | q
 ·exact h pins s σ H xs us Q I rs q
 ·exact h' pins s σ H xs us Q I rs q
theorem kH:CallR X (.type "tuple") (fun xs H Q=>∃p ys,xs=[.ref p]∧((SqL X.K H p ys∧∀l,H l=none→Q (.ref l) (upd H l (.tup ys)))∨(SqT X.K H p ys∧Q (.ref p) H))):=by
 intro pins s σ H xs us Q I r h
 obtain⟨p,ys,rfl,h⟩:=h
 obtain⟨u,rfl,rx⟩:=vals1 r
 cases rx
 rcases h with⟨hq,q⟩ | ⟨hq,q⟩
 ·obtain⟨aH,r',pl,hz⟩:=I.list hq
  have hlen:=r'.length
  refine call_tuple_list pl.isList (fun h' kp=>?_) (by simp only[List.size_toArray]<;>omega)
  have I1:Inv X pins σ H {s with heap:=h'}:=I.kept (t':=s.toks) kp
  have I2:Inv X pins σ (upd H h'.objs.size (.tup ys)) {s with heap:=h'.push {cls:= .type "tuple",data:= .seq aH.toArray} }:=
   I1.laid (t':=s.toks) (fun b o e=>Heap.get?_push_of_some _ e) (Nat.le_refl _) (show ObjOk X.prog X.w _ _ _ (.tup ys) from⟨hz,aH,r',IsTup.new _ _⟩)
  exact⟨.ref h'.objs.size,_,I2,rfl,q _ (I1.hok.fresh (Nat.le_refl _))⟩
 ·obtain⟨aH,r',pl,hz⟩:=I.tuple hq
  exact call_tuple_same pl ⟨.ref p,H,I,rfl,q⟩
def Bq(K:W.Frag)(T:String)(x:V)(H:Hp):Prop:=match x with
 | .str _=>T="str"
 | .int _=>T="int"
 | .ref p=>(T="list"∧∃xs,SqL K H p xs)∨(T="tuple"∧∃o,K.lookup p=some o∧o.cls= .type "tuple"∧o.dict=none)∨
    (T="dict"∧((∃aB,H p=some (.dK aB))∨∃aB,H p=some (.dT aB)))∨(T="set"∧∃S n,H p=some (.set S n))
 |_=>False
theorem zq{pins:List (Addr×Obj)}{σ:St}{H:Hp}{s:Shared}{T:String}{x:V}{v:Value}(I:Inv X pins σ H s)(r:RelV x v)(ty:Bq X.K T x H):
 s.TypeIs v T∧∀a,v= .ref a→∃ob,s.heap.get? a=some ob∧ob.dict=none:=by
 cases x with
 |str z=>
  obtain⟨t,rfl⟩:=r
  cases (show T="str" from ty)
  exact⟨typeIs_str s z t,fun _ e=>nomatch e⟩
 |int i=>
  obtain⟨t,rfl⟩:=r
  cases (show T="int" from ty)
  exact⟨typeIs_int s i t,fun _ e=>nomatch e⟩
 |ref p=>
  cases r
  rcases ty with⟨rfl,xs,hq⟩ | ⟨rfl,o,hk,hc,hd⟩ | ⟨rfl,hk⟩ | ⟨rfl,S,n,hk⟩
  ·obtain⟨aH,_,pl,_⟩:=I.list hq
   refine⟨pl.isList.typeIs,fun a e=>?_⟩
   cases e
   obtain⟨o,n,e,c,hd,_⟩:=pl
   exact⟨o,e,hd⟩
  ·refine⟨⟨o,I.kIn p o hk,hc⟩,fun a e=>?_⟩
   cases e
   exact⟨o,I.kIn _ o hk,hd⟩
  ·have z:∃o,s.heap.get? p=some o∧o.ExactDict:=by
    rcases hk with⟨aB,hk⟩ | ⟨aB,hk⟩
    ·obtain⟨_,_,_,_,o,_,_,e,ex,_⟩:=I.hok p _ hk
     exact⟨o,e,ex⟩
    ·obtain⟨_,_,_,_,o,_,_,e,ex,_⟩:=I.hok p _ hk
     exact⟨o,e,ex⟩
   obtain⟨o,e,ex⟩:=z
   refine⟨⟨o,e,ex.1⟩,fun a e2=>?_⟩
   cases e2
   exact⟨o,e,ex.2.1⟩
  ·obtain⟨o,_,_,_,e,ex,_⟩:=I.hok p _ hk
   refine⟨⟨o,e,ex.1⟩,fun a e2=>?_⟩
   cases e2
   exact⟨o,e,ex.2.1⟩
 |_=>exact False.elim ty
def CL(K:W.Frag)(T:String)(r:V→List V→Hp→VK→Prop)(to:TE)(t:TA):TE:=fun σ H Q=>to σ H fun x H1=>Bq K T x H1∧t σ H1 fun xs H2=>r x xs H2 Q
variable{o e:Expr}{es:List Expr}{to:TE}{t:TA}{name:Str}{apos aP:Pos}{T id:String}{r:V→List V→Hp→VK→Prop}
theorem uH(pa:PlainAttrs T)(slot:Slot T name id)(Cf:typeOf (.builtin id)=pure (.type "method_descriptor"))(hm:A4 X id r)(ho:PE X o to)(ha:PA X (e::es) t)
 (eL:attributeBase o name X.env (eval o X.env)=eval o X.env:=by rfl)
 (jH:((backTo aP (starEach (e::es) X.env)).all (fun x=>!x.1)&&(backToKw aP (keywordEach [] X.env)).all (fun x=>x.1.isSome)
  &&decide ((e::es).length+([]:List Keyword).length+(if ([]:List Keyword).isEmpty then 0 else 1)<30))=true:=by rfl)
 (eM:(apos.endLine==aP.line)=true:=by rfl) (hs:starEach (e::es) X.env=(false,eval e X.env)::starEach es X.env:=by rfl) (pZ:(backTo aP (starEach es X.env)).any (·.1)=false:=by rfl):
 PE X (.Call (.Attribute o name apos) (e::es) [] aP) (CL X.K T r to t):=by
 intro pins s σ H Q I h
 refine wpAny_Call_method_late eL jH eM rfl (bC (ho pins s σ H _ I h) fun v s1 ⟨x,H1,I1,r1,ty,q1⟩=>?_)
 obtain⟨h1,h2⟩:=zq I1 r1 ty
 refine⟨T,id,pa,slot,Cf,h1,h2,?_⟩
 have hA:=ha aP pins s1 σ H1 _ I1 q1
 rw[hs] at hA⊢
 refine Calls.callWith_builtin (by show (false||(backTo aP (starEach es X.env)).any (·.1))=false;rw[pZ]<;>rfl) (Calls.evalArgs_plain ?_)
 exact bC hA fun us s2 ⟨vs,H2,I2,r2,q2⟩=>hm pins s2 σ H2 x vs v us Q I2 r1 r2 q2
end
def C1(X:Cx)(id:String)(r:V→List V→Hp→VK→Prop):Prop:=
 ∀(pins:List (Addr×Obj)) (s:Shared) (σ:St) (H:Hp) (x:V) (xs:List V) (v:Value) (us:List Value) (Q:VK),Inv X pins σ H s→RelV x v→Vals xs us→r x xs H Q→
  wpAny (model X.prog X.w) X.A (call (.builtin id) (v::us)) (EP X pins σ Q) X.xe s
theorem Vals.one:∀{x:V}{us:List Value},Vals [x] us→∃u,us=[u]∧RelV x u
 |_,_, .cons r .nil=>⟨_,rfl,r⟩
section
variable{X:Cx}{pins:List (Addr×Obj)}{σ:St}{H:Hp}{s:Shared}{l b:Addr}{xs ys zs:List V}
theorem Inv.lset{aH its':List Value}{n:Nat}{f:Array Value→Array Value}{t':Nat}(I:Inv X pins σ H s)(hH:H l=some (.lst xs))
 (e:s.heap.get? l=some {cls:= .type "list",data:= .seq aH.toArray n})(hf:f aH.toArray=its'.toArray)(hv:Vals ys its')(hz:ys.length≤sizeLine):
 Inv X pins σ (upd H l (.lst ys)) {s with heap:=s.heap.update l (Obj.mapSeq f),toks:=t'}:=by
 have q:=PySem.IsL.update e f
 rw[hf] at q
 refine I.write (x:=l) (e:=l) (by rw[hH];exact trivial) (.inl rfl) (fun b' u hb hu=>(Heap.get?_update_other s.heap (Obj.mapSeq f) (Ne.symm hb)).trans hu) ⟨_,q⟩ ?_
 exact⟨hz,its',_,hv,q⟩
theorem Inv.fresh(I:Inv X pins σ H s):H s.heap.objs.size=none:=I.hok.fresh (Nat.le_refl _)
theorem Inv.lstM(I:Inv X pins σ H s)(hH:H l=some (.lst xs)):xs.length≤sizeLine∧∃(aH:List Value) (n:Nat),Vals xs aH∧xs.length=aH.length∧s.heap.get? l=some {cls:= .type "list",data:= .seq aH.toArray n}:=by
 obtain⟨z,aH,n,r,e⟩:=I.hok l _ hH
 exact⟨z,aH,n,r,r.length,e⟩
theorem ur{n:Nat}(h:n≤sizeLine):Builtin.List.listTooLong n=false:=by
 unfold Builtin.List.listTooLong
 exact decide_eq_false (by omega)
end
section
variable{X:Cx}
def rn:V→List V→Hp→VK→Prop:=fun x vs H Q=>∃l xs y,x= .ref l∧vs=[y]∧H l=some (.lst xs)∧xs.length<sizeLine∧Q .non (upd H l (.lst (xs++[y])))
theorem lM:C1 X "list.append" rn:=by
 intro pins s σ H x vs v us Q I rx rv h
 obtain⟨l,xs,y,rfl,rfl,hH,hz,q⟩:=h
 cases rx
 obtain⟨u,rfl,ru⟩:=rv.one
 obtain⟨z,aH,n,r,hl,e⟩:=I.lstM hH
 refine call_meets F.slot_list_append ⟨_,e,rfl⟩ F.entry_list_append (F.args_list_append_2 _ _) (PySem.list_append l aH.toArray n u (by rw[List.size_toArray];omega)) ⟨e,?_⟩
 refine⟨.non,_,I.lset (its':=aH++[u]) hH e (by simp) (r.append (.cons ru .nil)) ?_,rfl,q⟩
 rw[List.length_append,List.length_singleton]
 omega
def ro:V→List V→Hp→VK→Prop:=fun x vs H Q=>∃l b xs zs,x= .ref l∧vs=[.ref b]∧H l=some (.lst xs)∧H b=some (.lst zs)∧xs.length+zs.length≤sizeLine∧Q .non (upd H l (.lst (xs++zs)))
theorem sf:C1 X "list.extend" ro:=by
 intro pins s σ H x vs v us Q I rx rv h
 obtain⟨l,b,xs,zs,rfl,rfl,hH,hB,hz,q⟩:=h
 cases rx
 obtain⟨u,rfl,ru⟩:=rv.one
 cases ru
 obtain⟨z,aH,n,r,hl,e⟩:=I.lstM hH
 obtain⟨z2,dR,n2,r2,Dm,e2⟩:=I.lstM hB
 have hsz:aH.toArray.size+dR.toArray.size≤sizeLine:=by rw[List.size_toArray,List.size_toArray];omega
 have Ac:¬(!aH.toArray.isEmpty&&Builtin.List.listTooLong (aH.toArray.size+dR.toArray.size))=true:=by
  rw[ur hsz,Bool.and_false]
  exact Bool.false_ne_true
 refine call_meets F.slot_list_extend ⟨_,e,rfl⟩ F.entry_list_extend (F.args_list_extend_2 _ _)
  (AutoSeq1.list_extend_list_list_0 l aH.toArray n b dR.toArray n2 Ac (by rw[List.size_toArray];omega) (by omega)) ⟨e,e2,?_⟩
 refine⟨.non,_,I.lset (its':=aH++dR) hH e (by simp) (r.append r2) ?_,rfl,q⟩
 rw[List.length_append]
 omega
end
section
variable{prog:Program}{w:World}{A:Around}{E:Value→Shared→Prop}{s:Shared}
end
section
variable{X:Cx}
end
end L2
namespace Att
open PySem PySem.W PySem.Calls PyProof.Rows
theorem ints_of_wellAll{P:Params}{h:Heap}:∀(ns:List Int) (vs:List Value),WellAll P h vs (ns.map WData.int)→IntsAre vs ns:=by
 intro ns
 induction ns with
 |nil=>
  intro vs w
  rw[List.map_nil] at w
  cases w
  exact .nil
 |cons n ns ih=>
  intro vs w
  rw[List.map_cons] at w
  cases w with
  |cons a b=>
   cases a
   exact .cons _ _ (ih _ b)
theorem script_of{l:OpenLaw}{n:Nat}(hn:l.most=some n){P:Params}{h:Heap}{args:List WData}{vals:List Value}
 (vI:l.row.toRowW.claim.pre args=true)(Cg:WellAll P h vals args):
 ∃a vs ns,vals=[Value.ref a]∧args=[WData.list (ns.map WData.int)]∧h.get? a=some {cls:= .type "list",data:= .seq vs.toArray}∧IntsAre vs ns∧ns.length≤n:=by
 have EE:WShape.hasAll [] args [.list .int]=true:=(pre_splitW vI).1
 have hc:l.pre.holds [] {args:=args}=true:=(pre_splitW vI).2
 obtain⟨d,r,rfl,h1,h2⟩:=hasAllW_cons EE
 obtain rfl:=hasAllW_nil h2
 obtain⟨xs,rfl,h3⟩:=hasW_list h1
 obtain⟨ns,rfl⟩:=items_int h3
 have hlen:ns.length≤n:=by
  unfold OpenLaw.pre at hc
  have h4:(WTm.not (.lt (.lit (.int (n:Int))) (.len (.arg 0)))).holds [] {args:=[.list (ns.map .int)]}=true:=by
   have h4:=(holds_andW hc).1
   rw[hn] at h4
   exact h4
  have h5:=condW_of h4 (w_not (w_lt w_lit (w_len_list (w_arg rfl))))
  rw[List.length_map] at h5
  refine Nat.le_of_not_lt fun q=>?_
  have q':(n:Int)<((ns.length:Nat):Int):=by omega
  first
   |(rw [decide_eq_true q'] at h5;exact absurd h5 (by decide))
   |(simp at h5;omega)
 cases Cg with
 |cons w1 w2=>
  cases w2
  cases w1 with
  |list ho BR=>exact⟨_,_,ns,rfl,rfl,ho,ints_of_wellAll ns _ BR,hlen⟩
theorem post_true(l:OpenLaw)(args:List WData):l.row.toRowW.claim.post args (.bool true) args=true:=
 postW_of (r:=l.row.toRowW) (X:=(true==true))
  (show WShape.has [] (.bool true) .bool=true by first | rfl | decide | simp[WShape.has,WShape.arms,WShape.armsAll])
  (show (WTm.eq .res (.lit (.bool true))).value [] {args:=args,res:=some (.bool true),after:=args}=some (.bool (true==true)) from w_eq_bool (w_res rfl) w_lit) rfl
theorem attach_call{l:OpenLaw}{n:Nat}{q:Program}{loose:List Str}{XP:(Str→Option Value)→Heap→Prop}{YP:World→Heap→Prop}{d:DefRec}
 (hn:l.most=some n)(z7:d.params.defaults=[])
 (call:∀(w:World) (s₀ s₁:Shared) (mg mb:Str→Option Value) (fa:Addr) (o:Obj) (pm cd doc:Value) (a:Addr) (vs:List Value) (ns:List Int),
  Ground q loose [] XP w s₀ mg mb s₁.heap→YP w s₁.heap→
  s₁.heap.get? fa=some o→o.data= .func (docDef d.name d.params d.body d.scope pm cd doc)→s₁.heap.CodeRec cd d.name→mg d.name=some (.ref fa)→
  s₁.heap.get? a=some {cls:= .type "list",data:= .seq vs.toArray}→IntsAre vs ns→ns.length≤n→s₁.gens= #[]→
  codeAny (model l.prog w) callerA (.call (.ref fa) ⟨[.ref a],[]⟩) (fun r s'=>r= .ok (.ret (.bool true))∧OldK s₁.heap s'.heap∧s'.os=s₁.os∧AllBare s'.gens) s₁):
 WalkO q loose XP YP l.row.toRowW d [] (fun f vs=>PySem.call f vs):=by
 intro w s₀ s₁ mg mb G Y fa o pm cd doc dV kV ho hd sV hD yk hg args vals as vI Es Fh Cg Dq
 obtain rfl:dV= .none:=Dflts.none hD z7
 obtain rfl:kV= .none:=Dflts.noKw hD
 obtain⟨a,vs,ns,rfl,rfl,tT,hints,hlen⟩:=script_of hn vI Cg
 refine enter_call (codeAny_mono (call w s₀ s₁ mg mb fa o pm cd doc a vs ns G Y ho (fd_plain hd) sV yk tT hints hlen hg) fun r s' hq=>?_)
 obtain⟨rfl,h2,h3,h4⟩:=hq
 exact⟨.inl ⟨.bool true, .bool true,[],rfl,fun _=>rfl, .bool true,post_true l _,fun _=>⟨List.Pairwise.nil,fun _ hm=>(nomatch hm)⟩⟩,h2,h3,h4⟩
section
variable{prog:Program}{w:World}{A:Around}{E:Value→Shared→Prop}{s:Shared}{K:Frag}
def ledger(h:Heap)(L d:Addr):List (Addr×Obj):=(List.range h.objs.size).filterMap fun a=>if a=L∨a=d then none else(h.get? a).map fun o=>(a,o)
end
end Att
namespace L2
open PySem PySem.Spec PyProof.Rows
theorem md:∀{vs:List Value}{ns:List Int},IntsAre vs ns→Vals (ns.map V.int) vs
 |_,_, .nil=> .nil
 |_,_, .cons n t h=> .cons ⟨t,rfl⟩ (md h)
def xO(H:Hp):Prop:=∀b,H b=none∨∃o xs,H b=some (.frz o (.lst xs))
theorem oF{P:Program}{w:World}{K:W.Frag}{mg mb:Str→Option Value}{CX:pK}{k:Nat}{fa a:Addr}{fd:FuncData}{x:Str}{sp:Sp}{s₁:Shared}{vs:List Value}{ns:List Int}
 (KX:K.In s₁.heap)(Bd:s₁.heap.Ns mainGlobals mg)(hb:s₁.heap.Ns builtinsNs mb)(Ee:∀x:Str,x≠"__name__"→mb x=bootBuiltins x)(Ab:s₁.heap.NoLimit)(hg:s₁.gens= #[])
 (ha:s₁.heap.get? a=some {cls:= .type "list",data:= .seq vs.toArray})(hi:IntsAre vs ns)(hl:ns.length≤sizeLine)(hr:Room k callerA)
 (F:∀base:Heap,K.In base→base.Ns mainGlobals mg→FnOk P w K mg base CX k fa fd [x] sp)(z5:∀(s:Shared) (u:Value),BindsTo s fd ⟨[u],[]⟩ [(x,u)])
 (xy:∀H:Hp,xO H→SqL K H a (ns.map V.int)→sp [.ref a] H (fun v _=>v= .bl true) fun _ _ _=>False)
 (BL:∀H e s',CX [] H s₁ (fun _ _ _=>False) e s'→False):
 codeAny (model P w) callerA (.call (.ref fa) ⟨[.ref a],[]⟩) (fun r s'=>r= .ok (.ret (.bool true))∧OldK s₁.heap s'.heap∧s'.os=s₁.os∧AllBare s'.gens) s₁:=by
 have rv:=md hi
 have Cv:=hi.length
 have core:∀H:Hp,xO H→SqL K H a (ns.map V.int)→HOk P w H s₁.heap→(∀b,H b≠none→b=a)→(H a≠none→K.lookup a=none)→
  codeAny (model P w) callerA (.call (.ref fa) ⟨[.ref a],[]⟩) (fun r s'=>r= .ok (.ret (.bool true))∧OldK s₁.heap s'.heap∧s'.os=s₁.os∧AllBare s'.gens) s₁:=by
  intro H hO hS hok hA hK
  have qM:∀{b:Addr}{o:Obj},s₁.heap.get? b=some o→H b=none→(mD s₁.heap H).get? b=some o:=fun e n=>tR e n
  have Am:∀{b:Addr}{o:Obj}{es:Array DictEntry}{ep:Nat},s₁.heap.get? b=some o→o.data= .dict es ep→H b=none:=fun {b o es ep} e d=>by
   cases q:H b with
   |none=>rfl
   |some u=>
    have e':b=a:=hA b (by rw[q];simp)
    subst e'
    rw[ha] at e;cases e
    have d':Data.seq vs.toArray _=Data.dict es ep:=d
    cases d'
  have Bi:∀{b:Addr}{m:Str→Option Value},s₁.heap.Ns b m→(mD s₁.heap H).Ns b m:=fun {b m} ⟨o,es,ep,e,d,r⟩=>⟨o,es,ep,qM e (Am e d),d,r⟩
  have Dg:K.In (mD s₁.heap H):=fun b o e=>qM (KX b o e) (by
   cases q:H b with
   |none=>rfl
   |some u=>
    have e':b=a:=hA b (by rw[q];simp)
    subst e'
    rw[hK (by rw[q];simp)] at e;cases e)
  have hM:Mod K mg (mD s₁.heap H):=⟨Dg,Bi Bd,⟨mb,Bi hb,Ee⟩,let ⟨mc,h1,h2⟩:=Ab;⟨mc,Bi h1,h2⟩⟩
  have e0:Env0 P w K mg (mD s₁.heap H) callerA [] s₁ H:=⟨rfl,hM,fun b o e=>v5 e,Nat.le_of_eq (rS _ _),trivial,fun b hb=>absurd (show b∈([]:List Addr) from hb) (by simp),hok, .of_eq hg⟩
  refine codeAny_mono ((F _ Dg (Bi Bd)).run callerA [] s₁ H ⟨[.ref a],[]⟩ [.ref a] [.ref a] _ _ hr e0 (z5 s₁ (.ref a)) (.cons rfl .nil) (xy H hO hS)) fun r s' h=>?_
  cases r with
  |error e=>exact(BL H e s' h).elim
  |ok fl=>
   cases fl with
   |next=>exact False.elim h
   |brk=>exact False.elim h
   |cont=>exact False.elim h
   |ret u=>
    obtain⟨v,H',os,bare,un,Ca,r',q⟩:=h
    have q':v= .bl true:=q
    subst q'
    obtain rfl:u=Value.bool true:=r'
    refine⟨rfl,OldK.of_keep fun b o e=>?_,os,bare⟩
    cases q:H b with
    |none=>exact un.keep b o e q (by intro z;exact absurd (show b∈([]:List Addr) from z) (by simp)) (by simp)
    |some u=>
     rcases hO b with z | ⟨ob,xs,z⟩
     ·rw[q] at z;cases z
     ·have z2:=un.frzs b ob _ z
      obtain⟨e1,_⟩:=hok b _ z
      obtain⟨e2,_⟩:=Ca b _ z2
      rw[e] at e1;cases e1
      exact e2
 cases hk:K.lookup a with
 |some o=>
  have e:=KX a o hk
  rw[ha] at e
  cases e
  refine core (fun _=>none) (fun _=> .inl rfl) (.inr ⟨_,vs.toArray,_,hk,rfl,rfl,rfl,by rw[List.size_toArray,Cv];exact hl,by simpa using rv⟩) (fun b u z=>by have z':(none:Option HO)=some u:=z;cases z') (fun b z=>absurd rfl z) fun z=>absurd rfl z
 |none=>
  refine core (fun b=>if b=a then some (.frz {cls:= .type "list",data:= .seq vs.toArray} (.lst (ns.map V.int))) else none) (fun b=>?_) (.inl (.inr ⟨{cls:= .type "list",data:= .seq vs.toArray},if_pos rfl⟩)) (fun b u z=>?_) (fun b z=>?_) fun _=>hk
  ·by_cases hb:b=a
   ·exact .inr ⟨_,_,if_pos hb⟩
   ·exact .inl (if_neg hb)
  ·by_cases hb:b=a
   ·have z':=(if_pos hb).symm.trans z
    cases z'
    subst hb
    exact⟨ha,by rw[List.length_map];exact hl,vs,_,rv,ha⟩
   ·have z':=(if_neg hb).symm.trans z
    cases z'
  ·by_cases hb:b=a
   ·exact hb
   ·exact absurd (if_neg hb) z
abbrev E5{K:W.Frag}{h:Heap}(_:K.In h):W.Frag:=K
theorem Br{l:PySem.W.OpenLaw}{n k:Nat}{q:Program}{loose:List Str}{XP:(Str→Option Value)→Heap→Prop}{YP:World→Heap→Prop}{d:DefRec}{K:Params→W.Frag}{CX:World→pK}{sp:World→Sp}{x:Str}
 (hn:l.most=some n)(Ae:n≤sizeLine)(z7:d.params.defaults=[])(hr:Room k callerA)
 (hY:∀(w:World) (h:Heap),YP w h→(K w.params).In h)
 (F:∀(w:World) (mg:Str→Option Value) (fa:Addr) (h:Heap),(K w.params).In h→h.Ns mainGlobals mg→mg d.name=some (.ref fa)→
  ∃fd:FuncData,(∀(s:Shared) (u:Value),BindsTo s fd ⟨[u],[]⟩ [(x,u)])∧
   ∀base:Heap,(K w.params).In base→base.Ns mainGlobals mg→FnOk l.prog w (K w.params) mg base (CX w) k fa fd [x] (sp w))
 (xy:∀(w:World) (H:Hp) (a:Addr) (ns:List Int),ns.length≤n→xO H→SqL (K w.params) H a (ns.map V.int)→sp w [.ref a] H (fun v _=>v= .bl true) fun _ _ _=>False)
 (BL:∀(w:World) (H:Hp) (s:Shared) (e:Value) (s':Shared),CX w [] H s (fun _ _ _=>False) e s'→False):
 PySem.W.WalkO q loose XP YP l.row.toRowW d [] (fun f vs=>PySem.call f vs):=by
 refine Att.attach_call hn z7 fun w s₀ s₁ mg mb fa o pm cd doc a vs ns G Y ho hd sV yk tT hints hlen hg=>?_
 have KX:=hY w _ Y
 obtain⟨fd,hb,hF⟩:=F w mg fa _ KX G.T.g yk
 exact oF KX G.T.g G.T.b G.T.builtins G.T.nolimit hg tT hints (Nat.le_trans hlen Ae) hr hF hb (fun H hO hS=>xy w H a ns hlen hO hS) fun H e s'=>BL w H s₁ e s'
def cU(s:Stmt):Arguments:=match s with
 | .FunctionDef _ a _ _ _ _ _ _ _ _=>a
 |_=>{posonlyargs:=[],args:=[],vararg:=none,kwonlyargs:=[],kw_defaults:=[],kwarg:=none,defaults:=[]}
def aI(s:Stmt):List Stmt:=match s with
 | .FunctionDef _ _ b _ _ _ _ _ _ _=>b
 |_=>[]
def af(s:Stmt):Scope:=match s with
 | .FunctionDef _ _ _ _ _ _ sc _ _ _=>sc
 |_=>{kind:= .function,names:=[],isGenerator:=false,isCoroutine:=false}
abbrev DQ:pK:=fun _ _ _ _ _ _=>False
structure Fun (K:W.Frag) (x qual:Str) (st:Stmt) (f:Addr) (fd:FuncData):Prop where
 ex:∃(oc:Value) (od:Option Addr) (kV doc pm:Value) (an:Option Addr) (aY ct:Value) (xG:Array (Option Value)),
  fd=PySem.W.fnOf x qual (cU st) (aI st) (af st) .none kV doc pm an aY ct∧K.lookup f=some ⟨oc,od, .func fd,xG⟩∧PySem.W.codeIn K aY qual=true
 kp:PySem.W.keepIn K (.ref f)=true
section
variable{P:Program}{w:World}{K:W.Frag}{mg:Str→Option Value}{base:Heap}
theorem Fun.binds{x qual:Str}{st:Stmt}{f:Addr}{fd:FuncData}{ps:List Str}(F:Fun K x qual st f fd)
 (h:∀(kV doc pm:Value) (an:Option Addr) (aY ct:Value) (us:List Value),us.length=ps.length→bindArgs (PySem.W.fnOf x qual (cU st) (aI st) (af st) .none kV doc pm an aY ct) ⟨us,[]⟩=pure (ps.zip us)):Binds K fd ps []:=by
 obtain⟨oc,od,kV,doc,pm,an,aY,ct,xG,rfl,lk,sV⟩:=F.ex
 exact .all (h kV doc pm an aY ct)
theorem tL{x qual:Str}{st:Stmt}{f:Addr}{oc:Value}{od an:Option Addr}{xG:Array (Option Value)}{kV doc pm aY ct:Value}(l:K.lookup f=some ⟨oc,od, .func (PySem.W.fnOf x qual (cU st) (aI st) (af st) .none kV doc pm an aY ct),xG⟩)
 (c:PySem.W.codeIn K aY qual=true)(k:PySem.W.keepIn K (.ref f)=true):Fun K x qual st f (PySem.W.fnOf x qual (cU st) (aI st) (af st) .none kV doc pm an aY ct):=⟨⟨oc,od,kV,doc,pm,an,aY,ct,xG,rfl,l,c⟩,k⟩
end
section
variable{X:Cx}
theorem pv(i:Nat){x:Str}{pos:Pos}(hN:X.N[i]? =some x:=by rfl)(hv:Bz X.env.scope x:=by first | exact Or.inl rfl | exact Or.inr (Or.inl rfl) | exact Or.inr (Or.inr rfl))(hd:(x==("__debug__":Str))=false:=by decide)
 (sV:(x==("__classdict__":Str))=false:=by decide):PE X (.Name x pos) (k6 i):=y0 hN hv hd sV
end
def Same(H H':Hp):Prop:=∀b o,H b=some o→H' b=some o
theorem Same.refl(H:Hp):Same H H:=fun _ _ h=>h
theorem Same.trans{H H1 H2:Hp}(a:Same H H1)(b:Same H1 H2):Same H H2:=fun c o h=>b c o (a c o h)
theorem Same.free{H H':Hp}(e:Same H H'){l:Addr}(h:H' l=Option.none):H l=Option.none:=by
 cases q:H l with
 |none=>rfl
 |some o=>
  rw[e l o q] at h
  cases h
theorem Same.seq{K:W.Frag}{H H':Hp}{a:Addr}{xs:List V}(e:Same H H')(h:SqL K H a xs):SqL K H' a xs:=by
 rcases h with(h | ⟨o,h⟩) | h
 ·exact .inl (.inl (e _ _ h))
 ·exact .inl (.inr ⟨o,e _ _ h⟩)
 ·exact .inr h
section
variable{κ:Type}[DecidableEq κ]
def gU(aB:List (κ×V))(k:κ):Option V:=(aB.find? fun kv=>decide (kv.1=k)).map (·.2)
def putK(aB:List (κ×V))(k:κ)(v:V):List (κ×V):=
 if (aB.any fun kv=>decide (kv.1=k))=true then aB.map (fun kv=>if kv.1=k then(kv.1,v) else kv) else aB++[(k,v)]
theorem gX{p:κ×V}{r:List (κ×V)}{k:κ}(e:p.1=k):gU (p::r) k=some p.2:=by simp[gU,List.find?_cons,e]
theorem gW{p:κ×V}{r:List (κ×V)}{k:κ}(e:¬p.1=k):gU (p::r) k=gU r k:=by simp[gU,List.find?_cons,e]
theorem kz(k:κ):∀aB:List (κ×V),(aB.any fun kv=>decide (kv.1=k))=(gU aB k).isSome
 |[]=>rfl
 |p::r=>by
  rw[List.any_cons]
  by_cases e:p.1=k
  ·simp only[gX e,decide_eq_true e,Bool.true_or,Option.isSome_some]
  ·rw[gW e,decide_eq_false e,Bool.false_or];exact kz k r
theorem dm(aB:List (κ×V))(k:κ)(v:V):(putK aB k v).length≤aB.length+1:=by
 unfold putK
 split
 ·rw[List.length_map];omega
 ·rw[List.length_append,List.length_cons,List.length_nil];omega
theorem RelO.isSome_eq{o:Option V}{u:Option Value}(r:RelO o u):o.isSome=u.isSome:=by
 cases o with
 |none=>cases u with
  |none=>rfl
  |some _=>exact(show False from r).elim
 |some _=>cases u with
  |none=>exact(show False from r).elim
  |some _=>rfl
theorem RelO.getD{o:Option V}{u:Option Value}{d:V}{d':Value}(r:RelO o u)(rd:RelV d d'):RelV (o.getD d) (u.getD d'):=by
 cases o with
 |none=>cases u with
  |none=>exact rd
  |some _=>exact(show False from r).elim
 |some _=>cases u with
  |none=>exact(show False from r).elim
  |some _=>exact r
theorem KV.val{aB:List (κ×V)}{vs:List (κ×Value)}(r:KV aB vs)(k:κ):RelO (gU aB k) (valueAt vs k):=by
 unfold KV at r
 induction r with
 |nil=>exact True.intro
 | @cons p q ps qs h t ih=>
   obtain⟨h1,h2⟩:=h
   by_cases e:p.1=k
   ·have e':q.1=k:=h1.symm.trans e
    have b:valueAt (q::qs) k=some q.2:=by simp[valueAt,List.find?_cons,e']
    rw[gX e,b];exact h2
   ·have e':¬q.1=k:=fun z=>e (h1.trans z)
    have b:valueAt (q::qs) k=valueAt qs k:=by simp[valueAt,List.find?_cons,e']
    rw[gW e,b];exact ih
theorem KV.any{aB:List (κ×V)}{vs:List (κ×Value)}(r:KV aB vs)(k:κ):(aB.any fun kv=>decide (kv.1=k))=vs.any fun kv=>decide (kv.1=k):=by
 unfold KV at r
 induction r with
 |nil=>rfl
 |cons h t ih=>rw[List.any_cons,List.any_cons,ih,h.1]
theorem KV.repl{aB:List (κ×V)}{vs:List (κ×Value)}(r:KV aB vs)(k:κ){y:V}{u:Value}(ry:RelV y u):
 KV (aB.map fun kv=>if kv.1=k then(kv.1,y) else kv) (vs.map fun kv=>if kv.1=k then(kv.1,u) else kv):=by
 unfold KV at r⊢
 induction r with
 |nil=>exact .nil
 | @cons p q ps qs h t ih=>
   rw[List.map_cons,List.map_cons]
   refine .cons ?_ ih
   obtain⟨h1,h2⟩:=h
   by_cases e:p.1=k
   ·rw[if_pos e,if_pos (h1.symm.trans e)];exact⟨h1,ry⟩
   ·rw[if_neg e,if_neg (fun z=>e (h1.trans z))];exact⟨h1,h2⟩
theorem KV.put{aB:List (κ×V)}{vs:List (κ×Value)}(r:KV aB vs)(k:κ){y:V}{u:Value}(ry:RelV y u):KV (putK aB k y) (stored vs k u):=by
 unfold putK stored
 rw[r.any k]
 by_cases e:(vs.any fun kv=>decide (kv.1=k))=true
 ·rw[if_pos e,if_pos e];exact r.repl k ry
 ·rw[if_neg e,if_neg e];exact Paired.snoc r ⟨rfl,ry⟩
theorem KV.length{aB:List (κ×V)}{vs:List (κ×Value)}(r:KV aB vs):aB.length=vs.length:=Paired.length r
end
theorem jN{P:Program}{w:World}{k:Key}{u:Value}(r:RelV (kV k) u):(ba P w).is k u=true:=by
 cases k with
 |inl i=>obtain⟨t,e⟩:=(show∃t,u=Value.int i t from r);subst e;exact oJ P w i t
 |inr x=>obtain⟨t,e⟩:=(show∃t,u=Value.str x t from r);subst e;exact oK P w x t
theorem lI{P:Program}{w:World}:∀{ks:List Key}{us:List Value},Vals (ks.map kV) us→ItemsAre (ba P w) ks us
 |[],_,r=>by rw[List.map_nil] at r;cases r;exact .nil
 |k::ks,_,r=>by
  rw[List.map_cons] at r
  cases r with
  |cons h t=>exact .cons (jN h) (lI t)
abbrev KT(H:Hp):List (List Key×V)→List (List Key×Addr×Value)→Prop:=Paired fun p q=>p.1=q.1∧H q.2.1=some (.tup (p.1.map kV))∧RelV p.2 q.2.2
theorem KT.val{H:Hp}{aB:List (List Key×V)}{xs:List (List Key×Addr×Value)}(r:KT H aB xs)(k:List Key):RelO (gU aB k) ((atKey xs k).map (·.2)):=by
 induction r with
 |nil=>exact True.intro
 | @cons p q ps qs h t ih=>
   obtain⟨h1,_,h2⟩:=h
   by_cases e:p.1=k
   ·have e':q.1=k:=h1.symm.trans e
    have b:atKey (q::qs) k=some q.2:=by simp[atKey,List.find?_cons,e']
    rw[gX e,b];exact h2
   ·have e':¬q.1=k:=fun z=>e (h1.trans z)
    have b:atKey (q::qs) k=atKey qs k:=by simp[atKey,List.find?_cons,e']
    rw[gW e,b];exact ih
theorem KT.repl{H:Hp}{aB:List (List Key×V)}{xs:List (List Key×Addr×Value)}(r:KT H aB xs)(k:List Key){y:V}{u:Value}(ry:RelV y u):
 KT H (aB.map fun kv=>if kv.1=k then(kv.1,y) else kv) (xs.map (putAt k u)):=by
 induction r with
 |nil=>exact .nil
 | @cons p q ps qs h t ih=>
   rw[List.map_cons,List.map_cons]
   refine .cons ?_ ih
   obtain⟨h1,h2,h3⟩:=h
   unfold putAt
   by_cases e:p.1=k
   ·rw[if_pos e,if_pos (h1.symm.trans e)];exact⟨h1,h2,ry⟩
   ·rw[if_neg e,if_neg (fun z=>e (h1.trans z))];exact⟨h1,h2,h3⟩
theorem KT.put{H:Hp}{aB:List (List Key×V)}{xs:List (List Key×Addr×Value)}(r:KT H aB xs)(k:List Key){b:Addr}{y:V}{u:Value}(hb:H b=some (.tup (k.map kV)))(ry:RelV y u):
 KT H (putK aB k y) (storedH xs k b u):=by
 have e:(aB.any fun kv=>decide (kv.1=k))=(atKey xs k).isSome:=by
  rw[kz,(r.val k).isSome_eq,Option.isSome_map]
 unfold putK storedH
 rw[e]
 by_cases q:(atKey xs k).isSome=true
 ·rw[if_pos q,if_pos q];exact r.repl k ry
 ·rw[if_neg q,if_neg q];exact Paired.snoc r ⟨rfl,hb,ry⟩
theorem KT.keeps{H H':Hp}{aB:List (List Key×V)}{xs:List (List Key×Addr×Value)}(r:KT H aB xs)(ht:∀b ys,H b=some (.tup ys)→H' b=some (.tup ys)):KT H' aB xs:=
 Paired.mapP r fun _ _ z=>⟨z.1,ht _ _ z.2.1,z.2.2⟩
section
variable{P:Program}{w:World}{H:Hp}{h:Heap}{a:Addr}
theorem xK{u:HO}(ok:HOk P w H h)(e:Rd H a u):ObjOk P w H h a u:=e.ok ok
theorem jE{aB:List (Key×V)}(ok:HOk P w H h)(e:Rd H a (.dK aB)):aB.length≤sizeLine∧(a==sysModules)=false∧∃vs,KV aB vs∧h.DictOf (ba P w) a vs:=
 show ObjOk P w H h a (.dK aB) from xK ok e
theorem xi{aB:List (Key×V)}(ok:HOk P w H h)(e:H a=some (.dK aB)):aB.length≤sizeLine∧(a==sysModules)=false∧∃vs,KV aB vs∧h.DictOf (ba P w) a vs:=jE ok (.inl e)
theorem fV{ks:List Key}(ok:HOk P w H h)(e:H a=some (.tup (ks.map kV))):(tupleKind (ba P w)).is h ks a:=by
 obtain⟨_,aH,r,o,h1,h2,n,h3⟩:=(show ObjOk P w H h a (.tup (ks.map kV)) from ok a _ e)
 exact⟨o,aH.toArray,n,h1,h2,h3,by simpa using lI r⟩
theorem lz{aB:List (List Key×V)}(ok:HOk P w H h)(e:Rd H a (.dT aB)):aB.length≤sizeLine∧(a==sysModules)=false∧
 ∃xs,KT H aB xs∧h.DictOfH (tupleKind (ba P w)) a xs:=by
 obtain⟨z,y,xs,r,o,es,ep,h1,h2,h3,h4,h5⟩:=(show ObjOk P w H h a (.dT aB) from xK ok e)
 refine⟨z,y,xs,r,o,es,ep,h1,h2,h3,h4,fun x hx=>?_,h5⟩
 have all:∀{l:List (List Key×V)}{m:List (List Key×Addr×Value)},KT H l m→∀x∈m,(tupleKind (ba P w)).is h x.1 x.2.1:=by
  intro l m q
  induction q with
  |nil=>intro x hx;exact nomatch hx
  | @cons p q ps qs hq t ih=>
    intro x hx
    rcases List.mem_cons.mp hx with e | hx
    ·subst e
     exact fV ok (by rw[←hq.1];exact hq.2.1)
    ·exact ih x hx
 exact all r x hx
theorem xj{aB:List (List Key×V)}(ok:HOk P w H h)(e:H a=some (.dT aB)):aB.length≤sizeLine∧(a==sysModules)=false∧
 ∃xs,KT H aB xs∧h.DictOfH (tupleKind (ba P w)) a xs:=lz ok (.inl e)
end
def jb(H:Hp)(a:Addr)(y:V)(r:Option V):Prop:=
 (∃aB k,Rd H a (.dK aB)∧y=kV k∧r=gU aB k)∨∃aB k b,Rd H a (.dT aB)∧y= .ref b∧H b=some (.tup (k.map kV))∧r=gU aB k
def DPut(H:Hp)(a:Addr)(y v:V)(H':Hp):Prop:=
 (∃aB k,H a=some (.dK aB)∧y=kV k∧aB.length<sizeLine∧H'=upd H a (.dK (putK aB k v)))∨
 ∃aB k b,H a=some (.dT aB)∧y= .ref b∧H b=some (.tup (k.map kV))∧aB.length<sizeLine∧H'=upd H a (.dT (putK aB k v))
theorem DPut.k{H:Hp}{a:Addr}{aB:List (Key×V)}{k:Key}{v:V}(e:H a=some (.dK aB))(hl:aB.length<sizeLine):DPut H a (kV k) v (upd H a (.dK (putK aB k v))):= .inl ⟨aB,k,e,rfl,hl,rfl⟩
theorem DPut.t{H:Hp}{a b:Addr}{aB:List (List Key×V)}{k:List Key}{v:V}(e:H a=some (.dT aB))(eb:H b=some (.tup (k.map kV)))(hl:aB.length<sizeLine):
 DPut H a (.ref b) v (upd H a (.dT (putK aB k v))):= .inr ⟨aB,k,b,e,rfl,eb,hl,rfl⟩
section
variable{X:Cx}{pins:List (Addr×Obj)}{σ:St}{H:Hp}{s:Shared}{a:Addr}{y v:V}{u r:Value}{o:Option V}{A:Around}{E:Value→Shared→Prop}
theorem Inv.big(I:Inv X pins σ H s):sysModules<s.heap.objs.size:=by
 have h:mainGlobals<s.heap.objs.size:=(I.mod.glob.keeps I.bk).lt
 exact Nat.lt_trans (by decide) h
theorem BD{Q:Value→Shared→Prop}(hu:A.units+1<cLine)(I:Inv X pins σ H s)(g:jb H a y o)(ry:RelV y u)(h:∀s',Inv X pins σ H s'→Q (.bool o.isSome) s'):
 wpAny (model X.prog X.w) A (compareOp .In u (.ref a)) Q E s:=by
 rcases g with⟨aB,k,e,ey,l⟩ | ⟨aB,k,b,e,ey,eb,l⟩
 ·subst ey
  obtain⟨z,hd,vs,rel,dd⟩:=jE I.hok e
  refine wpAny_in_of (jN ry) hd dd.mapOf ?_
  rw[←(rel.val k).isSome_eq,←l]
  exact h _ (I.tok _)
 ·subst ey
  cases (show u=Value.ref b from ry)
  obtain⟨z,hd,xs,rel,dd⟩:=lz I.hok e
  refine wpAny_in_heap (tupleKind_room_in1 hu) (fV I.hok eb) hd dd ?_
  have q:=(rel.val k).isSome_eq
  rw[Option.isSome_map] at q
  rw[←q,←l]
  exact h _ (I.tok _)
theorem vA{Q:Value→Shared→Prop}(hu:A.units+1<cLine)(I:Inv X pins σ H s)(g:jb H a y o)(ry:RelV y u)(h:∀s',Inv X pins σ H s'→Q (.bool (!o.isSome)) s'):
 wpAny (model X.prog X.w) A (compareOp .NotIn u (.ref a)) Q E s:=by
 rcases g with⟨aB,k,e,ey,l⟩ | ⟨aB,k,b,e,ey,eb,l⟩
 ·subst ey
  obtain⟨z,hd,vs,rel,dd⟩:=jE I.hok e
  refine wpAny_notIn_of (jN ry) hd dd.mapOf ?_
  rw[←(rel.val k).isSome_eq,←l]
  exact h _ (I.tok _)
 ·subst ey
  cases (show u=Value.ref b from ry)
  obtain⟨z,hd,xs,rel,dd⟩:=lz I.hok e
  refine wpAny_notIn_heap (tupleKind_room_in1 hu) (fV I.hok eb) hd dd ?_
  have q:=(rel.val k).isSome_eq
  rw[Option.isSome_map] at q
  rw[←q,←l]
  exact h _ (I.tok _)
theorem jh{h':Heap}{t':Nat}{ob:HO}(I:Inv X pins σ H s)(mu:zF (H a))(hs:Heap.SameBut a s.heap h')(he:∃q,h'.get? a=some q)(new:ObjOk X.prog X.w (upd H a ob) h' a ob):
 Inv X pins σ (upd H a ob) {s with heap:=h',toks:=t'}:=
 I.write (x:=a) (e:=a) mu (.inl rfl) (fun b q hb z=>(hs.2 b hb).trans z) he new
theorem tB{P:Program}{w:World}{H':Hp}{h':Heap}{aB:List (Key×V)}{vs:List (Key×Value)}(z:aB.length≤sizeLine)(hd:(a==sysModules)=false)(rel:KV aB vs)(dd:h'.DictOf (ba P w) a vs):
 ObjOk P w H' h' a (.dK aB):=⟨z,hd,vs,rel,dd⟩
theorem rN{H':Hp}{Q:Unit→Shared→Prop}(hu:A.units+1<cLine)(I:Inv X pins σ H s)(g:DPut H a y v H')(ry:RelV y u)(rv:RelV v r)(h:∀s',Inv X pins σ H' s'→Q () s'):
 wpAny (model X.prog X.w) A (setItem (.ref a) u r) Q E s:=by
 rcases g with⟨aB,k,e,ey,l,eH⟩ | ⟨aB,k,b,e,ey,eb,l,eH⟩
 ·subst ey eH
  obtain⟨z,hd,vs,rel,dd⟩:=xi I.hok e
  have hz:vs.length≤sizeLine:=by rw[←rel.length];exact z
  have hl:(putK aB k v).length≤sizeLine:=by have:=dm aB k v;omega
  refine wpAny_setItem_pairs (hsz:=hz) (jN ry) dd fun h' vB hs=>h _ ?_
  have he:∃q,h'.get? a=some q:=let ⟨q,_,_,hq,_⟩:=vB;⟨q,hq⟩
  exact jh I (by rw[e];exact True.intro) hs he (tB hl hd (rel.put k rv) vB)
 ·subst ey eH
  cases (show u=Value.ref b from ry)
  obtain⟨z,hd,xs,rel,dd⟩:=xj I.hok e
  have hz:xs.length≤sizeLine:=by rw[←Paired.length rel];exact z
  have hl:(putK aB k v).length≤sizeLine:=by have:=dm aB k v;omega
  refine wpAny_setItem_heap (hsz:=hz) (tupleKind_room_in1 hu) (fV I.hok eb) dd fun h' vB hs=>h _ ?_
  obtain⟨q,es,ep,hq,h2,h3,h4,_,h5⟩:=vB
  refine jh I (by rw[e];exact True.intro) hs ⟨q,hq⟩ ⟨hl,hd,_,(rel.put k eb rv).keeps fun c ys ec=>?_,q,es,ep,hq,h2,h3,h4,h5⟩
  rw[aq (xC ec e (fun z=>nomatch z))]
  exact ec
end
section
variable{X:Cx}{pins:List (Addr×Obj)}{σ:St}{H:Hp}{s:Shared}{a:Addr}{aB:List (Key×V)}{k:Key}{u:Value}{A:Around}{E:Value→Shared→Prop}
theorem zS{Q:Value→Shared→Prop}(I:Inv X pins σ H s)(e:Rd H a (.dK aB))(h:∀t s',Inv X pins σ H s'→Q (.int aB.length t) s'):wpAny (model X.prog X.w) A (call (.builtin "len") [.ref a]) Q E s:=by
 obtain⟨z,hd,vs,rel,dd⟩:=jE I.hok e
 refine call_len_dict hd dd (by rw[←rel.length];rw[sizeLine_eq] at z;omega) ?_
 rw[←rel.length]
 exact h _ _ (I.tok _)
end
def CN(ty td:TE):TE:=fun σ H Q=>ty σ H fun y H1=>td σ H1 fun x H2=>∃a o,x= .ref a∧jb H2 a y o∧Q (.bl o.isSome) H2
def AN(td ty tv:TE):TS:=fun D σ H=>tv σ H fun v H1=>td σ H1 fun x H2=>ty σ H2 fun y H3=>∃a H4,x= .ref a∧DPut H3 a y v H4∧D.nx σ H4
section
variable{X:Cx}{o i e value:Expr}{pos pos' CZ:Pos}{td ty tv:TE}
theorem yM(hu:X.A.units+1<cLine)(hi:PE X i ty)(ho:PE X o td):PC X .In i o (CN ty td):=by
 intro pins s σ H Q I h
 refine bC (hi pins s σ H _ I h) fun iv s1 ⟨y,H1,I1,ry,q1⟩=>bC (ho pins s1 σ H1 _ I1 q1) fun u s2 ⟨x,H2,I2,rx,a,ov,ex,g,q2⟩=>?_
 subst ex
 obtain rfl:u=Value.ref a:=rx
 exact BD hu I2 g ry fun s3 I3=>⟨.bl ov.isSome,H2,I3,rfl,q2⟩
theorem wI(hu:X.A.units+1<cLine)(ho:PE X o td)(hi:PE X i ty)(hv:PE X value tv)(hs:swapsWith value (some (.Subscript o i pos')) pos.line X.env=pure false):
 PS X (.Assign [.Subscript o i pos'] value pos) (AN td ty tv):=by
 intro pins s σ H D I h
 refine wpAny_Assign_Subscript (bC (hv pins s σ H _ I h) fun r s1 ⟨v,H1,I1,rv,q1⟩=>bC (ho pins s1 σ H1 _ I1 q1) fun u s2 ⟨x,H2,I2,rx,q2⟩=>bC (hi pins s2 σ H2 _ I2 q2) fun iv s3 ⟨y,H3,I3,ry,a,H4,ex,g,q3⟩=>?_) hs
 subst ex
 obtain rfl:u=Value.ref a:=rx
 exact rN hu I3 g ry rv fun s4 I4=>⟨σ,H4,I4,q3⟩
end
theorem n_{P:Program}{w:World}{H:Hp}(h:Heap)(hb:sysModules<h.objs.size):ObjOk P w H (h.push {cls:= .type "dict",data:= .dict #[]}) h.objs.size (.dK []):=
 ⟨Nat.zero_le _,beq_eq_false_iff_ne.mpr (Ne.symm (Nat.ne_of_lt hb)),[], .nil,Heap.DictOf.new h⟩
theorem tE{P:Program}{w:World}{H:Hp}(h:Heap)(hb:sysModules<h.objs.size):ObjOk P w H (h.push {cls:= .type "dict",data:= .dict #[]}) h.objs.size (.dT []):=
 ⟨Nat.zero_le _,beq_eq_false_iff_ne.mpr (Ne.symm (Nat.ne_of_lt hb)),[], .nil,_,#[],0,Heap.get?_push_size _ rfl,⟨rfl,rfl,rfl⟩,rfl,rfl,List.nodup_nil⟩
def zm:TE:=fun _ H Q=>∀p,H p=none→Q (.ref p) (upd H p (.dK []))
section
variable{X:Cx}{pos:Pos}
theorem uM:PE X (.Dict [] [] pos) zm:=fun pins s σ H Q I h=>
 wpAny_Dict_empty ⟨.ref s.heap.objs.size,_,I.laid (a:=s.heap.objs.size) (o:= .dK []) (t':=s.toks) (fun _ _ q=>Heap.get?_push_of_some _ q) (Nat.le_refl _) (n_ s.heap I.big),rfl,h _ (I.hok.fresh (Nat.le_refl _))⟩
end
def vk:List (TE×TE)→St→Hp→(List (V×V)→Hp→Prop)→Prop
 |[],_,H,Q=>Q [] H
 |(tk,tv)::r,σ,H,Q=>tk σ H fun x H1=>tv σ H1 fun y H2=>vk r σ H2 fun ps H3=>Q ((x,y)::ps) H3
abbrev VV:List (V×V)→List (Value×Value)→Prop:=Paired fun p q=>RelV p.1 q.1∧RelV p.2 q.2
def Bv(X:Cx)(pos:Pos)(keys:List (Option Expr))(values:List Expr)(Bo:List (TE×TE)):Prop:=
 ∀(pins:List (Addr×Obj)) (s:Shared) (σ:St) (H:Hp) (Q:List (V×V)→Hp→Prop),Inv X pins σ H s→vk Bo σ H Q→
  wpAny (model X.prog X.w) X.A (evalPairs (pairTrees keys values X.env pos)) (fun vs s'=>∃ps H',Inv X pins σ H' s'∧VV ps vs∧Q ps H') X.xe s
theorem rk{X:Cx}{pos:Pos}:Bv X pos [] [] []:=fun pins s σ H Q I h=>pairTrees_nil_walk ⟨[],H,I, .nil,h⟩
theorem j9{X:Cx}{pos:Pos}{k v:Expr}{ks:List (Option Expr)}{vs:List Expr}{tk tv:TE}{Bo:List (TE×TE)}(hk:PE X k tk)(hv:PE X v tv)(hr:Bv X pos ks vs Bo):
 Bv X pos (some k::ks) (v::vs) ((tk,tv)::Bo):=fun pins s σ H Q I h=>
 pairTrees_cons_walk (bC (hk pins s σ H _ I h) fun u s1 ⟨x,H1,I1,rx,q1⟩=>bC (hv pins s1 σ H1 _ I1 q1) fun w2 s2 ⟨y,H2,I2,ry,q2⟩=>
  bC (hr pins s2 σ H2 _ I2 q2) fun ws s3 ⟨ps,H3,I3,rel,q3⟩=>⟨(x,y)::ps,H3,I3, .cons ⟨rx,ry⟩ rel,q3⟩)
structure M1 (X:Cx) (o:Expr) (m:Str) (apos:Pos) (e:Expr) (aP:Pos):Prop where
 base:attributeBase o m X.env (eval o X.env)=eval o X.env
 few:((backTo aP (starEach [e] X.env)).all (fun x=>!x.1)&&(backToKw aP (keywordEach [] X.env)).all (fun x=>x.1.isSome)
  &&decide (([e]:List Expr).length+([]:List Keyword).length+(if ([]:List Keyword).isEmpty then 0 else 1)<30))=true
 line:(apos.endLine==aP.line)=true
 trees:backTo aP (starEach [e] X.env)=[(false,eval e X.env)]
structure M2 (X:Cx) (o:Expr) (m:Str) (apos:Pos) (e f:Expr) (aP:Pos):Prop where
 base:attributeBase o m X.env (eval o X.env)=eval o X.env
 few:((backTo aP (starEach [e,f] X.env)).all (fun x=>!x.1)&&(backToKw aP (keywordEach [] X.env)).all (fun x=>x.1.isSome)
  &&decide (([e,f]:List Expr).length+([]:List Keyword).length+(if ([]:List Keyword).isEmpty then 0 else 1)<30))=true
 line:(apos.endLine==aP.line)=true
 trees:backTo aP (starEach [e,f] X.env)=[(false,eval e X.env),(false,eval f X.env)]
def A1(H:Hp)(a:Addr):Prop:=(∃aB,Rd H a (.dK aB))∨∃aB,Rd H a (.dT aB)
theorem tX{X:Cx}{pins:List (Addr×Obj)}{σ:St}{H:Hp}{s:Shared}{a:Addr}(I:Inv X pins σ H s)(d:A1 H a):
 s.TypeIs (.ref a) "dict"∧(∀b,Value.ref a= .ref b→∃ob,s.heap.get? b=some ob∧ob.dict=none)∧(a==sysModules)=false:=by
 rcases d with⟨aB,e⟩ | ⟨aB,e⟩
 ·obtain⟨_,hd,vs,_,dd⟩:=jE I.hok e
  refine⟨dd.typeIs,fun b q=>?_,hd⟩
  cases q
  obtain⟨ob,_,_,h1,h2,_⟩:=dd
  exact⟨ob,h1,h2.2.1⟩
 ·obtain⟨_,hd,xs,_,dd⟩:=lz I.hok e
  refine⟨dd.typeIs,fun b q=>?_,hd⟩
  cases q
  obtain⟨ob,_,_,h1,h2,_⟩:=dd
  exact⟨ob,h1,h2.2.1⟩
section
variable{X:Cx}{pins:List (Addr×Obj)}{σ:St}{H:Hp}{s:Shared}{a:Addr}{y d:V}{u r:Value}{o:Option V}{A:Around}{E:Value→Shared→Prop}
theorem xX{Q:Value→Shared→Prop}(hu:A.units+1<cLine)(I:Inv X pins σ H s)(g:jb H a y o)(ry:RelV y u)(h:∀w' s',Inv X pins σ H s'→RelV (o.getD .non) w'→Q w' s'):
 wpAny (model X.prog X.w) A (call (.builtin "dict.get") [.ref a,u]) Q E s:=by
 rcases g with⟨aB,k,e,ey,l⟩ | ⟨aB,k,b,e,ey,eb,l⟩
 ·subst ey
  obtain⟨z,hd,vs,rel,dd⟩:=jE I.hok e
  refine call_meetsIn PySem.F.slot_dict_get dd.typeIs PySem.F.entry_dict_get (PySem.F.args_dict_get_2 _ _) (meets_dict_get (ba X.prog X.w) a (jN ry) hd) ⟨_,dd.mapOf,h _ _ (I.tok _) ?_⟩
  rw[l]
  exact(rel.val k).getD rfl
 ·subst ey
  cases (show u=Value.ref b from ry)
  obtain⟨z,hd,xs,rel,dd⟩:=lz I.hok e
  refine call_meetsIn PySem.F.slot_dict_get dd.typeIs PySem.F.entry_dict_get (PySem.F.args_dict_get_2 _ _) (meetsH_dict_get (tupleKind (ba X.prog X.w)) a b hd) ⟨tupleKind_room_in1 hu,k,xs,fV I.hok eb,dd,h _ _ (I.tok _) ?_⟩
  rw[l]
  exact(rel.val k).getD rfl
theorem xY{Q:Value→Shared→Prop}(hu:A.units+1<cLine)(I:Inv X pins σ H s)(g:jb H a y o)(ry:RelV y u)(rd:RelV d r)(h:∀w' s',Inv X pins σ H s'→RelV (o.getD d) w'→Q w' s'):
 wpAny (model X.prog X.w) A (call (.builtin "dict.get") [.ref a,u,r]) Q E s:=by
 rcases g with⟨aB,k,e,ey,l⟩ | ⟨aB,k,b,e,ey,eb,l⟩
 ·subst ey
  obtain⟨z,hd,vs,rel,dd⟩:=jE I.hok e
  refine call_meetsIn PySem.F.slot_dict_get dd.typeIs PySem.F.entry_dict_get (PySem.F.args_dict_get_3 _ _ _) (meets_dict_get_default (ba X.prog X.w) a (jN ry) hd r) ⟨_,dd.mapOf,h _ _ (I.tok _) ?_⟩
  rw[l]
  exact(rel.val k).getD rd
 ·subst ey
  cases (show u=Value.ref b from ry)
  obtain⟨z,hd,xs,rel,dd⟩:=lz I.hok e
  refine call_meetsIn PySem.F.slot_dict_get dd.typeIs PySem.F.entry_dict_get (PySem.F.args_dict_get_3 _ _ _) (meetsH_dict_get_default (tupleKind (ba X.prog X.w)) a b hd r) ⟨tupleKind_room_in1 hu,k,xs,fV I.hok eb,dd,h _ _ (I.tok _) ?_⟩
  rw[l]
  exact(rel.val k).getD rd
end
def zk(td ty:TE):TE:=fun σ H Q=>td σ H fun x H1=>∃a,x= .ref a∧A1 H1 a∧ty σ H1 fun y H2=>∃o,jb H2 a y o∧Q (o.getD .non) H2
def zl(td ty tx:TE):TE:=fun σ H Q=>td σ H fun x H1=>∃a,x= .ref a∧A1 H1 a∧ty σ H1 fun y H2=>tx σ H2 fun z H3=>∃o,jb H3 a y o∧Q (o.getD z) H3
section
variable{X:Cx}{o e f:Expr}{apos aP:Pos}{td ty tx:TE}
theorem uK(hu:X.A.units+1<cLine)(ho:PE X o td)(he:PE X e ty)(m:M1 X o "get" apos e aP):PE X (.Call (.Attribute o "get" apos) [e] [] aP) (zk td ty):=by
 intro pins s σ H Q I h
 refine wpAny_Call_method m.base m.few m.line PySem.F.plainAttrs_dict PySem.F.slot_dict_get PySem.F.type_dict_get (bC (ho pins s σ H _ I h) fun u s1 ⟨x,H1,I1,rx,a,ex,d,q1⟩=>?_)
 subst ex
 obtain rfl:u=Value.ref a:=rx
 obtain⟨t1,t2,_⟩:=tX I1 d
 refine⟨t1,t2,?_⟩
 rw[m.trees]
 refine Calls.callWith_builtin rfl (Calls.evalArgs_plain (Calls.spliced_cons (bC (he pins s1 σ H1 _ I1 q1) fun iv s2 ⟨y,H2,I2,ry,ov,g,q2⟩=>Calls.spliced_nil ?_)))
 exact xX hu I2 g ry fun w' s3 I3 vq=>⟨_,H2,I3,vq,q2⟩
theorem uL(hu:X.A.units+1<cLine)(ho:PE X o td)(he:PE X e ty)(hf:PE X f tx)(m:M2 X o "get" apos e f aP):PE X (.Call (.Attribute o "get" apos) [e,f] [] aP) (zl td ty tx):=by
 intro pins s σ H Q I h
 refine wpAny_Call_method m.base m.few m.line PySem.F.plainAttrs_dict PySem.F.slot_dict_get PySem.F.type_dict_get (bC (ho pins s σ H _ I h) fun u s1 ⟨x,H1,I1,rx,a,ex,d,q1⟩=>?_)
 subst ex
 obtain rfl:u=Value.ref a:=rx
 obtain⟨t1,t2,_⟩:=tX I1 d
 refine⟨t1,t2,?_⟩
 rw[m.trees]
 refine Calls.callWith_builtin rfl (Calls.evalArgs_plain (Calls.spliced_cons (bC (he pins s1 σ H1 _ I1 q1) fun iv s2 ⟨y,H2,I2,ry,q2⟩=>
  Calls.spliced_cons (bC (hf pins s2 σ H2 _ I2 q2) fun fv s3 ⟨z,H3,I3,rz,ov,g,q3⟩=>Calls.spliced_nil ?_))))
 exact xY hu I3 g ry rz fun w' s4 I4 vq=>⟨_,H3,I4,vq,q3⟩
end
section
variable{X:Cx}{pins:List (Addr×Obj)}{σ:St}{H:Hp}{s:Shared}{a:Addr}{aB:List (Key×V)}{A:Around}{E:Value→Shared→Prop}
end
section
variable{X:Cx}{pins:List (Addr×Obj)}{σ:St}{H:Hp}{s:Shared}{a:Addr}{y:V}{u:Value}{A:Around}{E:Value→Shared→Prop}
end
end L2
namespace L3
open PySem PySem.Spec L2
open PyProof.Rows hiding St
inductive Rs (α:Type) where
 |ok (a:α) | ex (n:Nat)
def M(α:Type):=Option (Rs α)
def M.ret{α:Type}(a:α):M α:=some (.ok a)
def M.bind{α β:Type}(m:M α)(k:α→M β):M β:=match m with
 |none=>none
 |some (.ex n)=>some (.ex n)
 |some (.ok a)=>k a
def M.stuck{α:Type}:M α:=none
def M.raise{α:Type}(n:Nat):M α:=some (.ex n)
instance:Monad M where
 pure:=M.ret
 bind:=M.bind
@[simp] theorem ah{α β:Type}(a:α)(k:α→M β):(M.ret a>>=k)=k a:=rfl
@[simp] theorem xS{α β:Type}(a:α)(k:α→M β):((pure a:M α)>>=k)=k a:=rfl
@[simp] theorem xT{α β:Type}(n:Nat)(k:α→M β):(M.raise n>>=k)=M.raise n:=rfl
@[simp] theorem xU{α β:Type}(k:α→M β):((M.stuck:M α)>>=k)=M.stuck:=rfl
theorem M.cs{α:Type}(m:M α):m=M.stuck∨(∃n,m=M.raise n)∨∃a,m=M.ret a:=by
 match m with
 |none=>exact .inl rfl
 |some (.ex n)=>exact .inr (.inl ⟨n,rfl⟩)
 |some (.ok a)=>exact .inr (.inr ⟨a,rfl⟩)
theorem eg{α:Type}{a b:α}(h:M.ret a=M.ret b):a=b:=by
 have h:some (Rs.ok a)=some (Rs.ok b):=h
 cases h
 rfl
theorem kr{α:Type}{a:α}(h:M.stuck=M.ret a):False:=by
 have h:none=some (Rs.ok a):=h
 cases h
theorem uW{α:Type}{n:Nat}{a:α}(h:M.raise n=M.ret a):False:=by
 have h:some (Rs.ex n)=some (Rs.ok a):=h
 cases h
theorem dZ{α β:Type}{m:M α}{k:α→M β}{r:β}(h:(m>>=k)=M.ret r):∃a,m=M.ret a∧k a=M.ret r:=by
 rcases m.cs with e | ⟨n,e⟩ | ⟨a,e⟩
 ·subst e;exact(kr h).elim
 ·subst e;exact(uW h).elim
 ·subst e;exact⟨a,rfl,h⟩
def zD(h:Heap)(ea D:Addr):Prop:=∃ox,h.get? ea=some ox∧ox.cls= .ref D
def DR(ea D:Addr):HO:= .ext fun h=>zD h ea D
inductive D where
 |non | bl (b:Bool) | int (i:Int) | str (x:Str) | raw (v:V) | exc (C:Addr) | scr (l:List Int) | tup (l:List D) | lst (l:List D)
 |dct (ks:List (List Key)) (l:List D) | dci (ks:List Key) (l:List D)
instance:Inhabited D:=⟨.non⟩
def lim:Nat:=4096
theorem cj:lim<sizeLine:=by rw[sizeLine_eq];decide
mutual
def Den(K:W.Frag)(F:Hp):D→V→Prop
 | .non,v=>v= .non
 | .bl b,v=>v= .bl b
 | .int i,v=>v= .int i
 | .str x,v=>v= .str x∧x.length≤lim
 | .raw u,v=>v=u
 | .exc C,v=>∃ea,v= .ref ea∧F ea=some (DR ea C)
 | .scr ns,v=>∃a,v= .ref a∧SqL K F a (ns.map V.int)∧ns.length≤lim
 | .tup ds,v=>∃a vs,v= .ref a∧F a=some (.tup vs)∧DenL K F ds vs∧ds.length≤lim
 | .lst ds,v=>∃a vs,v= .ref a∧F a=some (.lst vs)∧DenL K F ds vs∧ds.length≤lim
 | .dct ks ds,v=>∃a ob vs,v= .ref a∧F a=some (.frz ob (.dT (ks.zip vs)))∧DenL K F ds vs∧ks.length=ds.length∧ds.length≤lim
 | .dci ks ds,v=>∃a ob vs,v= .ref a∧F a=some (.frz ob (.dK (ks.zip vs)))∧DenL K F ds vs∧ks.length=ds.length∧ds.length≤lim
def DenL(K:W.Frag)(F:Hp):List D→List V→Prop
 |[],vs=>vs=[]
 |d::ds,vs=>∃v r,vs=v::r∧Den K F d v∧DenL K F ds r
end
theorem Same.rd{H H':Hp}{a:Addr}{u:HO}(e:Same H H')(h:Rd H a u):Rd H' a u:=by
 rcases h with h | ⟨o,h⟩
 ·exact .inl (e _ _ h)
 ·exact .inr ⟨o,e _ _ h⟩
theorem Same.tup{K:W.Frag}{H H':Hp}{a:Addr}{xs:List V}(e:Same H H')(h:SqT K H a xs):SqT K H' a xs:=by
 rcases h with h | h
 ·exact .inl (Same.rd e h)
 ·exact .inr h
section
variable{K:W.Frag}{F F':Hp}
mutual
theorem Den.mono(e:Same F F'):∀{d:D}{v:V},Den K F d v→Den K F' d v
 | .non,_,h=>h
 | .bl _,_,h=>h
 | .int _,_,h=>h
 | .str _,_,h=>h
 | .raw _,_,h=>h
 | .exc _,_,⟨a,h1,h2⟩=>⟨a,h1,e _ _ h2⟩
 | .scr _,_,⟨a,h1,h2,h3⟩=>⟨a,h1,Same.seq e h2,h3⟩
 | .tup _,_,⟨a,vs,h1,h2,h3,h4⟩=>⟨a,vs,h1,e _ _ h2,DenL.mono e h3,h4⟩
 | .lst _,_,⟨a,vs,h1,h2,h3,h4⟩=>⟨a,vs,h1,e _ _ h2,DenL.mono e h3,h4⟩
 | .dct _ _,_,⟨a,ob,vs,h1,h2,h3,h4⟩=>⟨a,ob,vs,h1,e _ _ h2,DenL.mono e h3,h4⟩
 | .dci _ _,_,⟨a,ob,vs,h1,h2,h3,h4⟩=>⟨a,ob,vs,h1,e _ _ h2,DenL.mono e h3,h4⟩
theorem DenL.mono(e:Same F F'):∀{ds:List D}{vs:List V},DenL K F ds vs→DenL K F' ds vs
 |[],_,h=>h
 |_::_,_,⟨v,r,h1,h2,h3⟩=>⟨v,r,h1,Den.mono e h2,DenL.mono e h3⟩
end
theorem DenL.nil:DenL K F [] []:=rfl
theorem DenL.cons{d:D}{v:V}{ds:List D}{vs:List V}(h:Den K F d v)(r:DenL K F ds vs):DenL K F (d::ds) (v::vs):=⟨v,vs,rfl,h,r⟩
theorem DenL.len:∀{ds:List D}{vs:List V},DenL K F ds vs→ds.length=vs.length
 |[],_,h=>by cases (show _=_ from h);rfl
 |_::ds,_,⟨v,r,h1,_,h3⟩=>by subst h1;rw[List.length_cons,List.length_cons,DenL.len h3]
theorem DenL.get:∀{ds:List D}{vs:List V}{i:Nat}{d:D},DenL K F ds vs→ds[i]? =some d→∃v,vs[i]? =some v∧Den K F d v
 |[],_,_,_,_,e=>by simp at e
 |d::ds,_,0,_,⟨v,r,h1,h2,h3⟩,e=>by subst h1;simp at e;subst e;exact⟨v,rfl,h2⟩
 |d::ds,_,i+1,_,⟨v,r,h1,h2,h3⟩,e=>by
  subst h1
  obtain⟨w,e1,e2⟩:=DenL.get (i:=i) h3 (by simpa using e)
  exact⟨w,by simpa using e1,e2⟩
theorem DenL.at:∀{ds:List D}{vs:List V}{i:Nat}{v:V},DenL K F ds vs→vs[i]? =some v→∃d,ds[i]? =some d∧Den K F d v
 |[],_,_,_,h,e=>by cases (show _=_ from h);simp at e
 |d::ds,_,0,_,⟨v,r,h1,h2,h3⟩,e=>by subst h1;simp at e;subst e;exact⟨d,rfl,h2⟩
 |d::ds,_,i+1,_,⟨v,r,h1,h2,h3⟩,e=>by
  subst h1
  obtain⟨w,e1,e2⟩:=DenL.at (i:=i) h3 (by simpa using e)
  exact⟨w,by simpa using e1,e2⟩
theorem DenL.append:∀{ds es:List D}{vs ws:List V},DenL K F ds vs→DenL K F es ws→DenL K F (ds++es) (vs++ws)
 |[],_,_,_,h,h'=>by cases (show _=_ from h);exact h'
 |d::ds,_,_,_,⟨v,r,h1,h2,h3⟩,h'=>by subst h1;exact⟨v,_,rfl,h2,DenL.append h3 h'⟩
theorem DenL.take:∀{ds:List D}{vs:List V}(n:Nat),DenL K F ds vs→DenL K F (ds.take n) (vs.take n)
 |_,_,0,_=>by simp[List.take];rfl
 |[],_,_+1,h=>by cases (show _=_ from h);rfl
 |d::ds,_,n+1,⟨v,r,h1,h2,h3⟩=>by subst h1;exact⟨v,_,rfl,h2,DenL.take n h3⟩
theorem DenL.drop:∀{ds:List D}{vs:List V}(n:Nat),DenL K F ds vs→DenL K F (ds.drop n) (vs.drop n)
 |_,_,0,h=>by simpa using h
 |[],_,_+1,h=>by cases (show _=_ from h);rfl
 |d::ds,_,n+1,⟨v,r,h1,h2,h3⟩=>by subst h1;exact DenL.drop n h3
theorem DenL.ints(ns:List Int):DenL K F (ns.map D.int) (ns.map V.int):=by
 induction ns with
 |nil=>rfl
 |cons n ns ih=>exact .cons rfl ih
end
structure Ext (F H F' H':Hp):Prop where
 hh:Same H H'
 ff:Same F F'
 fh:Same F' H'
 new:∀a,H a≠none→F' a=F a∨∃ts,H a=some (.tup ts)
theorem Ext.old{F H F' H':Hp}(e:Ext F H F' H'){a:Addr}{o:HO}(h:H a=some o)(hn:∀ts,o≠ .tup ts):F' a=F a:=by
 rcases e.new a (by rw[h];exact fun z=>nomatch z) with q | ⟨ts,q⟩
 ·exact q
 ·rw[h] at q;cases q;exact absurd rfl (hn ts)
theorem Ext.refl{F H:Hp}(h:Same F H):Ext F H F H:=⟨Same.refl _,Same.refl _,h,fun _ _=> .inl rfl⟩
theorem Ext.trans{F H F' H' F'' H'':Hp}(a:Ext F H F' H')(b:Ext F' H' F'' H''):Ext F H F'' H'':=
 ⟨a.hh.trans b.hh,a.ff.trans b.ff,b.fh,fun c hc=>by
  have:H' c≠none:=by
   cases q:H c with
   |none=>exact absurd q hc
   |some o=>rw[a.hh c o q];exact fun z=>nomatch z
  rcases a.new c hc with p | p
  ·rcases b.new c this with q | ⟨ts,q⟩
   ·exact .inl (q.trans p)
   ·cases z:H c with
    |none=>exact absurd z hc
    |some o=>
     rw[a.hh c o z] at q
     exact .inr ⟨ts,q⟩
  ·exact .inr p⟩
theorem Ext.lay{F H:Hp}{a:Addr}{o:HO}(h:Same F H)(n:H a=none):Ext F H (upd F a o) (upd H a o):=by
 have nf:F a=none:=Same.free h n
 refine⟨fun b u e=>?_,fun b u e=>?_,fun b u e=>?_,fun b hb=>?_⟩
 ·rw[aq (bt e n)];exact e
 ·rw[aq (bt e nf)];exact e
 ·by_cases q:b=a
  ·subst q;rw[ax] at e⊢;exact e
  ·rw[aq q] at e⊢;exact h b u e
 ·exact .inl (aq fun z=>hb (by rw[z];exact n))
theorem Ext.free{F H:Hp}{a:Addr}{o:HO}(h:Same F H)(n:H a=none):Ext F H F (upd H a o):=
 ⟨fun b u e=>by rw[aq (bt e n)];exact e,Same.refl _,fun b u e=>by rw[aq (bt (h b u e) n)];exact h b u e,fun _ _=> .inl rfl⟩
def WP(K:W.Frag)(Xw:Nat→Hp→Prop)(F H:Hp)(m:M D)(Q:VK):Prop:=
 match m with
 |none=>False
 |some (.ok d)=>∀v H' F',Ext F H F' H'→Den K F' d v→Q v H'
 |some (.ex n)=>∀F' H',Ext F H F' H'→Xw n H'
def WPL(K:W.Frag)(Xw:Nat→Hp→Prop)(F H:Hp)(m:M (List D))(Q:List V→Hp→Prop):Prop:=
 match m with
 |none=>False
 |some (.ok ds)=>∀vs H' F',Ext F H F' H'→DenL K F' ds vs→Q vs H'
 |some (.ex n)=>∀F' H',Ext F H F' H'→Xw n H'
def WPB(Xw:Nat→Hp→Prop)(F H:Hp)(m:M Bool)(Q:Bool→Hp→Prop):Prop:=
 match m with
 |none=>False
 |some (.ok b)=>∀H' F',Ext F H F' H'→Q b H'
 |some (.ex n)=>∀F' H',Ext F H F' H'→Xw n H'
section
variable{K:W.Frag}{Xw:Nat→Hp→Prop}{F F' H H':Hp}{Q:VK}
theorem WP.ext{m:M D}(e:Ext F H F' H')(h:WP K Xw F H m Q):WP K Xw F' H' m Q:=by
 match m,h with
 |none,h=>exact h
 |some (.ok d),h=>exact fun v H2 F2 e2 q=>h v H2 F2 (e.trans e2) q
 |some (.ex n),h=>exact fun F2 H2 e2=>h F2 H2 (e.trans e2)
theorem WPL.ext{m:M (List D)}{Q:List V→Hp→Prop}(e:Ext F H F' H')(h:WPL K Xw F H m Q):WPL K Xw F' H' m Q:=by
 match m,h with
 |none,h=>exact h
 |some (.ok d),h=>exact fun v H2 F2 e2 q=>h v H2 F2 (e.trans e2) q
 |some (.ex n),h=>exact fun F2 H2 e2=>h F2 H2 (e.trans e2)
theorem WPB.ext{m:M Bool}{Q:Bool→Hp→Prop}(e:Ext F H F' H')(h:WPB Xw F H m Q):WPB Xw F' H' m Q:=by
 match m,h with
 |none,h=>exact h
 |some (.ok d),h=>exact fun H2 F2 e2=>h H2 F2 (e.trans e2)
 |some (.ex n),h=>exact fun F2 H2 e2=>h F2 H2 (e.trans e2)
theorem WP.fin{d:D}{v:V}(h:WP K Xw F H (M.ret d) Q)(e:Ext F H F' H')(q:Den K F' d v):Q v H':=h v H' F' e q
theorem WP.now{d:D}{v:V}(h:WP K Xw F H (M.ret d) Q)(s:Same F H)(q:Den K F d v):Q v H:=h v H F (Ext.refl s) q
theorem WP.bind{m:M D}{k:D→M D}(h:WP K Xw F H (m>>=k) Q):WP K Xw F H m fun v H1=>∃F1 d,Ext F H F1 H1∧Den K F1 d v∧WP K Xw F1 H1 (k d) Q:=by
 match m,h with
 |none,h=>exact h
 |some (.ok d),h=>exact fun v H2 F2 e2 q=>⟨F2,d,e2,q,WP.ext e2 (show WP K Xw F H (k d) Q from h)⟩
 |some (.ex n),h=>exact h
theorem WP.bindL{m:M (List D)}{k:List D→M D}(h:WP K Xw F H (m>>=k) Q):WPL K Xw F H m fun vs H1=>∃F1 ds,Ext F H F1 H1∧DenL K F1 ds vs∧WP K Xw F1 H1 (k ds) Q:=by
 match m,h with
 |none,h=>exact h
 |some (.ok d),h=>exact fun v H2 F2 e2 q=>⟨F2,d,e2,q,WP.ext e2 (show WP K Xw F H (k d) Q from h)⟩
 |some (.ex n),h=>exact h
theorem WPB.bind{m:M D}{k:D→M Bool}{Q:Bool→Hp→Prop}(h:WPB Xw F H (m>>=k) Q):WP K Xw F H m fun v H1=>∃F1 d,Ext F H F1 H1∧Den K F1 d v∧WPB Xw F1 H1 (k d) Q:=by
 match m,h with
 |none,h=>exact h
 |some (.ok d),h=>exact fun v H2 F2 e2 q=>⟨F2,d,e2,q,WPB.ext e2 (show WPB Xw F H (k d) Q from h)⟩
 |some (.ex n),h=>exact h
theorem WPB.bindB{m:M Bool}{k:Bool→M Bool}{Q:Bool→Hp→Prop}(h:WPB Xw F H (m>>=k) Q):WPB Xw F H m fun b H1=>∃F1,Ext F H F1 H1∧WPB Xw F1 H1 (k b) Q:=by
 match m,h with
 |none,h=>exact h
 |some (.ok d),h=>exact fun H2 F2 e2=>⟨F2,e2,WPB.ext e2 (show WPB Xw F H (k d) Q from h)⟩
 |some (.ex n),h=>exact h
theorem WPL.bind{m:M D}{k:D→M (List D)}{Q:List V→Hp→Prop}(h:WPL K Xw F H (m>>=k) Q):WP K Xw F H m fun v H1=>∃F1 d,Ext F H F1 H1∧Den K F1 d v∧WPL K Xw F1 H1 (k d) Q:=by
 match m,h with
 |none,h=>exact h
 |some (.ok d),h=>exact fun v H2 F2 e2 q=>⟨F2,d,e2,q,WPL.ext e2 (show WPL K Xw F H (k d) Q from h)⟩
 |some (.ex n),h=>exact h
theorem WPL.bindL{m:M (List D)}{k:List D→M (List D)}{Q:List V→Hp→Prop}(h:WPL K Xw F H (m>>=k) Q):WPL K Xw F H m fun vs H1=>∃F1 ds,Ext F H F1 H1∧DenL K F1 ds vs∧WPL K Xw F1 H1 (k ds) Q:=by
 match m,h with
 |none,h=>exact h
 |some (.ok d),h=>exact fun v H2 F2 e2 q=>⟨F2,d,e2,q,WPL.ext e2 (show WPL K Xw F H (k d) Q from h)⟩
 |some (.ex n),h=>exact h
theorem WP.mono{m:M D}{Q':VK}(h:WP K Xw F H m Q)(k:∀v H',Q v H'→Q' v H'):WP K Xw F H m Q':=by
 match m,h with
 |none,h=>exact h
 |some (.ok d),h=>exact fun v H2 F2 e2 q=>k _ _ (h v H2 F2 e2 q)
 |some (.ex n),h=>exact h
theorem WPL.mono{m:M (List D)}{Q Q':List V→Hp→Prop}(h:WPL K Xw F H m Q)(k:∀v H',Q v H'→Q' v H'):WPL K Xw F H m Q':=by
 match m,h with
 |none,h=>exact h
 |some (.ok d),h=>exact fun v H2 F2 e2 q=>k _ _ (h v H2 F2 e2 q)
 |some (.ex n),h=>exact h
theorem WPB.mono{m:M Bool}{Q Q':Bool→Hp→Prop}(h:WPB Xw F H m Q)(k:∀v H',Q v H'→Q' v H'):WPB Xw F H m Q':=by
 match m,h with
 |none,h=>exact h
 |some (.ok d),h=>exact fun H2 F2 e2=>k _ _ (h H2 F2 e2)
 |some (.ex n),h=>exact h
end
inductive C where
 |lst (l:List D) | dct (ks:List (List Key)) (l:List D) | dci (ks:List Key) (l:List D)
def C.d:C→D
 | .lst ds=> .lst ds
 | .dct ks ds=> .dct ks ds
 | .dci ks ds=> .dci ks ds
inductive Sl where
 |fz (d:D) | ow (c:C)
abbrev aT:=List (Option Sl)
def DenC(K:W.Frag)(F:Hp):C→HO→Prop
 | .lst ds,o=>∃vs,o= .lst vs∧DenL K F ds vs∧ds.length≤lim
 | .dct ks ds,o=>∃vs,o= .dT (ks.zip vs)∧DenL K F ds vs∧ks.length=ds.length∧ds.length≤lim
 | .dci ks ds,o=>∃vs,o= .dK (ks.zip vs)∧DenL K F ds vs∧ks.length=ds.length∧ds.length≤lim
theorem DenC.mono{K:W.Frag}{F F':Hp}(e:Same F F'):∀{c:C}{o:HO},DenC K F c o→DenC K F' c o
 | .lst _,_,⟨vs,h1,h2,h3⟩=>⟨vs,h1,DenL.mono e h2,h3⟩
 | .dct _ _,_,⟨vs,h1,h2,h3⟩=>⟨vs,h1,DenL.mono e h2,h3⟩
 | .dci _ _,_,⟨vs,h1,h2,h3⟩=>⟨vs,h1,DenL.mono e h2,h3⟩
theorem DenC.notup{K:W.Frag}{F:Hp}:∀{c:C}{o:HO},DenC K F c o→∀ts,o≠ .tup ts
 | .lst _,_,⟨_,h1,_⟩,ts,z=>by rw[h1] at z;cases z
 | .dct _ _,_,⟨_,h1,_⟩,ts,z=>by rw[h1] at z;cases z
 | .dci _ _,_,⟨_,h1,_⟩,ts,z=>by rw[h1] at z;cases z
def eG(ob:Obj):HO→HO
 | .dT aB=> .frz ob (.dT aB)
 | .dK aB=> .frz ob (.dK aB)
 |o=>o
theorem DenC.den{K:W.Frag}{F F':Hp}{a:Addr}{ob:Obj}:∀{c:C}{o:HO},DenC K F c o→Same F F'→F' a=some (eG ob o)→Den K F' c.d (.ref a)
 | .lst _,_,⟨vs,h1,h2,h3⟩,e,q=>by subst h1;exact⟨a,vs,rfl,q,DenL.mono e h2,h3⟩
 | .dct _ _,_,⟨vs,h1,h2,h3⟩,e,q=>by subst h1;exact⟨a,ob,vs,rfl,q,DenL.mono e h2,h3⟩
 | .dci _ _,_,⟨vs,h1,h2,h3⟩,e,q=>by subst h1;exact⟨a,ob,vs,rfl,q,DenL.mono e h2,h3⟩
def DenO(K:W.Frag)(F H:Hp):Sl→V→Prop
 | .fz d,v=>Den K F d v
 | .ow c,v=>∃a o,v= .ref a∧H a=some o∧F a=none∧DenC K F c o
structure StE (K:W.Frag) (F H:Hp) (σ:St) (ρ:aT):Prop where
 fh:Same F H
 den:∀(i:Nat) (sl:Sl),ρ[i]? =some (some sl)→∃v,σ[i]? =some (some v)∧DenO K F H sl v
theorem DenO.ext{K:W.Frag}{F H F' H':Hp}(e:Ext F H F' H'):∀{sl:Sl}{v:V},DenO K F H sl v→DenO K F' H' sl v
 | .fz _,_,h=>Den.mono e.ff h
 | .ow _,_,⟨a,o,h1,h2,h3,h4⟩=>⟨a,o,h1,e.hh _ _ h2,by rw[e.old h2 h4.notup];exact h3,DenC.mono e.ff h4⟩
theorem StE.ext{K:W.Frag}{F H F' H':Hp}{σ:St}{ρ:aT}(s:StE K F H σ ρ)(e:Ext F H F' H'):StE K F' H' σ ρ:=
 ⟨e.fh,fun i sl q=>let ⟨v,h1,h2⟩:=s.den i sl q;⟨v,h1,h2.ext e⟩⟩
abbrev DE:=aT→M D
abbrev DT:=aT→M Bool
abbrev DA:=aT→M (List D)
def tD(K:W.Frag)(Xw:Nat→Hp→Prop)(δ:DE):TE:=fun σ H Q=>∃F ρ,StE K F H σ ρ∧WP K Xw F H (δ ρ) Q
def CO(K:W.Frag)(Xw:Nat→Hp→Prop)(δ:DT):TT:=fun σ H Q=>∃F ρ,StE K F H σ ρ∧WPB Xw F H (δ ρ) Q
def DK(K:W.Frag)(Xw:Nat→Hp→Prop)(δ:DA):TA:=fun σ H Q=>∃F ρ,StE K F H σ ρ∧WPL K Xw F H (δ ρ) Q
def PD(X:Cx)(Xw:Nat→Hp→Prop)(e:Expr)(δ:DE):Prop:=PE X e (tD X.K Xw δ)
def nS(X:Cx)(Xw:Nat→Hp→Prop)(e:Expr)(δ:DT):Prop:=PT X e (CO X.K Xw δ)
def kG(X:Cx)(Xw:Nat→Hp→Prop)(es:List Expr)(δ:DA):Prop:=PA X es (DK X.K Xw δ)
theorem PE.weak{X:Cx}{e:Expr}{t t':TE}(h:PE X e t)(k:∀σ H Q,t' σ H Q→t σ H Q):PE X e t':=fun pins s σ H Q I w=>h pins s σ H Q I (k σ H Q w)
theorem PT.weak{X:Cx}{e:Expr}{t t':TT}(h:PT X e t)(k:∀σ H Q,t' σ H Q→t σ H Q):PT X e t':=fun pins s σ H Q I w=>h pins s σ H Q I (k σ H Q w)
theorem PA.weak{X:Cx}{e:List Expr}{t t':TA}(h:PA X e t)(k:∀σ H Q,t' σ H Q→t σ H Q):PA X e t':=fun pos pins s σ H Q I w=>h pos pins s σ H Q I (k σ H Q w)
def dV(i:Nat):DE:=fun ρ=>match ρ[i]? with
 |some (some (.fz d))=>M.ret d
 |_=>M.stuck
def dC(d:D):DE:=fun _=>M.ret d
def d1(g:D→M D)(a:DE):DE:=fun ρ=>a ρ>>=g
def d2(g:D→D→M D)(a b:DE):DE:=fun ρ=>a ρ>>=fun x=>b ρ>>=fun y=>g x y
def aN:DA:=fun _=>M.ret []
def aC(a:DE)(r:DA):DA:=fun ρ=>a ρ>>=fun x=>r ρ>>=fun xs=>M.ret (x::xs)
def dA(g:List D→M D)(a:DA):DE:=fun ρ=>a ρ>>=g
def sS:D→M Bool
 | .bl b=>M.ret b
 |_=>M.stuck
def eu(a:DE):DT:=fun ρ=>a ρ>>=sS
def kI(a b:DT):DT:=fun ρ=>a ρ>>=fun x=>if x then M.ret true else b ρ
def bN(a:DT):DT:=fun ρ=>a ρ>>=fun x=>M.ret (!x)
def cG(a b:DE):DE:=fun ρ=>a ρ>>=fun x=>sS x>>=fun c=>if c then b ρ else M.ret (.bl false)
def xg(a:DE):DE:=fun ρ=>a ρ>>=fun x=>sS x>>=fun c=>M.ret (.bl (!c))
section
variable{X:Cx}{Xw:Nat→Hp→Prop}{a b:Expr}{δa δb:DE}{pos:Pos}
theorem ab{i:Nat}{x:Str}(h:PE X (.Name x pos) (k6 i)):PD X Xw (.Name x pos) (dV i):=PE.weak h fun σ H Q ⟨F,ρ,s,w⟩=>by
 unfold dV at w
 split at w
 ·rename_i d e
  obtain⟨v,h1,h2⟩:=s.den i _ e
  exact⟨v,h1,WP.now w s.fh h2⟩
 ·exact w.elim
theorem eW{e:Expr}{d:D}{v:V}(h:PE X e (tC v))(hd:∀F,Den X.K F d v):PD X Xw e (dC d):=PE.weak h fun σ H Q ⟨F,ρ,s,w⟩=>WP.now w s.fh (hd F)
theorem au{i j}:PD X Xw (.Constant (.int i) j pos) (dC (.int i)):=eW yV fun _=>rfl
theorem c6{i j}:PD X Xw (.Constant (.bool i) j pos) (dC (.bl i)):=eW Av fun _=>rfl
theorem bJ{x j}(h:x.length≤lim:=by decide):PD X Xw (.Constant (.str x) j pos) (dC (.str x)):=eW yY fun _=>⟨rfl,h⟩
def pL(K:W.Frag)(r:R2)(g:D→D→M D):Prop:=∀(Xw:Nat→Hp→Prop) (F H:Hp) (x y:V) (dx dy:D) (Q:VK),Same F H→Den K F dx x→Den K F dy y→WP K Xw F H (g dx dy) Q→r x y H Q
theorem nH{r:R2}{g:D→D→M D}(hg:pL X.K r g):∀σ H Q,tD X.K Xw (d2 g δa δb) σ H Q→AW r (tD X.K Xw δa) (tD X.K Xw δb) σ H Q:=fun σ H Q ⟨F,ρ,s,w⟩=>by
 refine⟨F,ρ,s,WP.mono (WP.bind w) fun v H1 ⟨F1,d,e1,q1,w1⟩=>?_⟩
 refine⟨F1,ρ,s.ext e1,WP.mono (WP.bind w1) fun u H2 ⟨F2,d',e2,q2,w2⟩=>?_⟩
 exact hg Xw F2 H2 v u d d' Q e2.fh (Den.mono e2.ff q1) q2 w2
theorem iX{op:Operator}{r:R2}{g:D→D→M D}(ho:OpR X (binaryOp op) r)(hg:pL X.K r g)(ha:PD X Xw a δa)(hb:PD X Xw b δb):PD X Xw (.BinOp a op b pos) (d2 g δa δb):=
 PE.weak (Ax ho ha hb) (nH hg)
theorem qo{op:CmpOp}{r:R2}{g:D→D→M D}(ho:OpR X (compareOp op) r)(hg:pL X.K r g)(ha:PD X Xw a δa)(hb:PD X Xw b δb)(hm:behindInMarks op b=false:=by first | exact uq _ | rfl):PD X Xw (.Compare a [op] [b] pos) (d2 g δa δb):=
 PE.weak (wB ho ha hb hm) (nH hg)
theorem gL{op:CmpOp}{r:R2}{g:D→D→M D}(ho:OpR X (compareOp op) r)(hg:pL X.K r g)(ha:PD X Xw a δa)(hb:PD X Xw b δb)(hm:behindInMarks op b=false:=by first | exact uq _ | rfl):nS X Xw (.Compare a [op] [b] pos) (eu (d2 g δa δb)):=
 PT.weak (wN ho ha hb hm) fun σ H Q ⟨F,ρ,s,w⟩=>by
  refine nH hg σ H _ ⟨F,ρ,s,WP.mono (WPB.bind w) fun v H1 ⟨F1,d,e1,q1,w1⟩=>?_⟩
  cases d with
  |bl k=>exact⟨k,q1,w1 _ _ (Ext.refl e1.fh)⟩
  |_=>exact w1.elim
theorem rh{r:R2}{g:D→D→M D}(hr:zE X r)(hg:pL X.K r g)(ha:PD X Xw a δa)(hb:PD X Xw b δb)(hs:fk b:=by intro _ _;rfl):PD X Xw (.Subscript a b pos) (d2 g δa δb):=
 PE.weak (Aw hr ha hb hs) (nH hg)
theorem ae:kG X Xw [] aN:=PA.weak mT fun σ H Q ⟨F,ρ,s,w⟩=>w [] H F (Ext.refl s.fh) rfl
theorem aa{es:List Expr}{δs:DA}(ha:PD X Xw a δa)(hr:kG X Xw es δs)(hs:starEach (a::es) X.env=(false,eval a X.env)::starEach es X.env:=by rfl):kG X Xw (a::es) (aC δa δs):=
 PA.weak (mS ha hr hs) fun σ H Q ⟨F,ρ,s,w⟩=>by
  refine⟨F,ρ,s,WP.mono (WPL.bind w) fun v H1 ⟨F1,d,e1,q1,w1⟩=>?_⟩
  refine⟨F1,ρ,s.ext e1,WPL.mono (WPL.bindL w1) fun vs H2 ⟨F2,ds,e2,q2,w2⟩=>?_⟩
  exact w2 _ _ _ (Ext.refl e2.fh) (.cons (Den.mono e2.ff q1) q2)
def dS(ds:List D):M D:=if ds.length≤lim then M.ret (.tup ds) else M.stuck
def eR(ds:List D):M D:=if ds.length≤lim then M.ret (.lst ds) else M.stuck
theorem p8{ds:List D}{f:List D→D}{Q:VK}{F H:Hp}(w:WP X.K Xw F H (if ds.length≤lim then M.ret (f ds) else M.stuck) Q):ds.length≤lim∧WP X.K Xw F H (M.ret (f ds)) Q:=by
 split at w
 ·rename_i h;exact⟨h,w⟩
 ·exact w.elim
theorem eX{x1}{es:List Expr}{δs:DA}(h:kG X Xw es δs):PD X Xw (.Tuple es x1 pos) (dA dS δs):=PE.weak (yZ h) fun σ H Q ⟨F,ρ,s,w⟩=>by
 refine⟨F,ρ,s,WPL.mono (WP.bindL w) fun vs H1 ⟨F1,ds,e1,q1,w1⟩=>?_⟩
 obtain⟨hl,w1⟩:=p8 (X:=X) w1
 have hv:=q1.len
 refine⟨by have:=cj;omega,fun p hp=>WP.fin w1 (Ext.lay e1.fh hp) ⟨p,vs,rfl,ax,DenL.mono (Ext.lay e1.fh hp).ff q1,hl⟩⟩
theorem mV{es:List Expr}{δs:DA}(h:kG X Xw es δs):PD X Xw (.List es pos) (dA eR δs):=PE.weak (uN h) fun σ H Q ⟨F,ρ,s,w⟩=>by
 refine⟨F,ρ,s,WPL.mono (WP.bindL w) fun vs H1 ⟨F1,ds,e1,q1,w1⟩=>?_⟩
 obtain⟨hl,w1⟩:=p8 (X:=X) w1
 have hv:=q1.len
 refine⟨by have:=cj;omega,fun p hp=>WP.fin w1 (Ext.lay e1.fh hp) ⟨p,vs,rfl,ax,DenL.mono (Ext.lay e1.fh hp).ff q1,hl⟩⟩
end
def ItD(K:W.Frag)(F:Hp)(J:It)(ds:List D):Prop:=∀(F' H':Hp) (i:Nat),Same F F'→Same F' H'→
 (∀d,ds[i]? =some d→J.go i H'∧∀x H'',J.yld i H' x H''→∃F'',Ext F' H' F'' H''∧Den K F'' d x)∧(ds.length≤i→J.stop i H')
theorem ItD.mono{K:W.Frag}{F F1:Hp}{J:It}{ds:List D}(h:ItD K F J ds)(e:Same F F1):ItD K F1 J ds:=fun F' H' i s1 s2=>h F' H' i (e.trans s1) s2
def WPI(K:W.Frag)(Xw:Nat→Hp→Prop)(F H:Hp)(m:M (List D))(R:It→Hp→Prop):Prop:=
 match m with
 |none=>False
 |some (.ok ds)=>∀J H' F',Ext F H F' H'→ItD K F' J ds→R J H'
 |some (.ex n)=>∀F' H',Ext F H F' H'→Xw n H'
def EV(K:W.Frag)(Xw:Nat→Hp→Prop)(δ:DA):TI:=fun σ H R=>∃F ρ,StE K F H σ ρ∧WPI K Xw F H (δ ρ) R
def xa(X:Cx)(Xw:Nat→Hp→Prop)(tg iter:Expr)(δ:DA):Prop:=PI X tg iter (EV X.K Xw δ)
theorem PI.weak{X:Cx}{tg e:Expr}{t t':TI}(h:PI X tg e t)(k:∀σ H Q,t' σ H Q→t σ H Q):PI X tg e t':=fun pins s σ H Q I w=>h pins s σ H Q I (k σ H Q w)
theorem WPI.bind{K:W.Frag}{Xw:Nat→Hp→Prop}{F H:Hp}{m:M D}{k:D→M (List D)}{R:It→Hp→Prop}(h:WPI K Xw F H (m>>=k) R):
 WP K Xw F H m fun v H1=>∃F1 d,Ext F H F1 H1∧Den K F1 d v∧WPI K Xw F1 H1 (k d) R:=by
 match m,h with
 |none,h=>exact h
 |some (.ok d),h=>
  refine fun v H2 F2 e2 q=>⟨F2,d,e2,q,?_⟩
  have h:WPI K Xw F H (k d) R:=h
  show WPI K Xw F2 H2 (k d) R
  match k d,h with
  |none,h=>exact h
  |some (.ok ds),h=>exact fun J H3 F3 e3 q3=>h J H3 F3 (e2.trans e3) q3
  |some (.ex n),h=>exact fun F3 H3 e3=>h F3 H3 (e2.trans e3)
 |some (.ex n),h=>exact h
theorem WPI.bindL{K:W.Frag}{Xw:Nat→Hp→Prop}{F H:Hp}{m:M (List D)}{k:List D→M (List D)}{R:It→Hp→Prop}(h:WPI K Xw F H (m>>=k) R):
 WPL K Xw F H m fun v H1=>∃F1 d,Ext F H F1 H1∧DenL K F1 d v∧WPI K Xw F1 H1 (k d) R:=by
 match m,h with
 |none,h=>exact h
 |some (.ok d),h=>
  refine fun v H2 F2 e2 q=>⟨F2,d,e2,q,?_⟩
  have h:WPI K Xw F H (k d) R:=h
  show WPI K Xw F2 H2 (k d) R
  match k d,h with
  |none,h=>exact h
  |some (.ok ds),h=>exact fun J H3 F3 e3 q3=>h J H3 F3 (e2.trans e3) q3
  |some (.ex n),h=>exact fun F3 H3 e3=>h F3 H3 (e2.trans e3)
 |some (.ex n),h=>exact h
def lstM:D→M (List D)
 | .lst ds=>M.ret ds
 |_=>M.stuck
def C0:D→M (List D)
 | .tup ds=>M.ret ds
 |_=>M.stuck
def mr(a:DE):DA:=fun ρ=>a ρ>>=lstM
def fB(a:DE):DA:=fun ρ=>a ρ>>=C0
theorem tZ{K:W.Frag}{F:Hp}{a:Addr}{vs:List V}{ds:List D}(h:SqL K F a vs)(hd:DenL K F ds vs):ItD K F (Bs K a) ds:=fun F' H' i s1 s2=>by
 have hs:=Same.seq s2 (Same.seq s1 h)
 refine⟨fun d e=>?_,fun hl=>⟨vs,hs,by rw[←hd.len];exact hl⟩⟩
 obtain⟨v,e1,q⟩:=hd.get e
 refine⟨⟨vs,v,hs,e1⟩,fun x H'' y=>?_⟩
 obtain⟨e2,y⟩:=y
 subst e2
 have:=y vs hs
 rw[e1] at this
 cases this
 exact⟨F',Ext.refl s2,Den.mono s1 q⟩
theorem vO{K:W.Frag}{F:Hp}{a:Addr}{vs:List V}{ds:List D}(h:SqT K F a vs)(hd:DenL K F ds vs):ItD K F (Bt K a) ds:=fun F' H' i s1 s2=>by
 have hs:=Same.tup s2 (Same.tup s1 h)
 refine⟨fun d e=>?_,fun hl=>⟨vs,hs,by rw[←hd.len];exact hl⟩⟩
 obtain⟨v,e1,q⟩:=hd.get e
 refine⟨⟨vs,v,hs,e1⟩,fun x H'' y=>?_⟩
 obtain⟨e2,y⟩:=y
 subst e2
 have:=y vs hs
 rw[e1] at this
 cases this
 exact⟨F',Ext.refl s2,Den.mono s1 q⟩
def eA(lo:Int)(n:Nat):List D:=(List.range n).map fun(i:Nat)=>D.int (lo+(i:Int))
theorem rY{K:W.Frag}{F:Hp}(lo:Int)(n:Nat):ItD K F (A2 lo n) (eA lo n):=fun F' H' i s1 s2=>by
 refine⟨fun d e=>?_,fun hl=>show n≤i by simpa[eA] using hl⟩
 unfold eA at e
 rw[List.getElem?_map] at e
 have hi:i<n:=by
  by_cases hi:i<n
  ·exact hi
  ·rw[List.getElem?_eq_none (by simpa using hi)] at e;cases e
 rw[List.getElem?_range hi] at e
 cases e
 refine⟨hi,fun x H'' y=>?_⟩
 obtain⟨e2,y⟩:=y
 subst e2 y
 exact⟨F',Ext.refl s2,rfl⟩
section
variable{X:Cx}{Xw:Nat→Hp→Prop}{tg l:Expr}{δ:DE}{pos:Pos}
theorem eY(h:PD X Xw l δ):xa X Xw tg l (mr δ):=PI.weak (wF h) fun σ H R ⟨F,ρ,s,w⟩=>by
 refine⟨F,ρ,s,WP.mono (WPI.bind w) fun v H1 ⟨F1,d,e1,q1,w1⟩=>?_⟩
 cases d with
 |lst ds=>
  obtain⟨a,vs,h1,h2,h3,h4⟩:=q1
  exact⟨a,h1,⟨vs,Same.seq e1.fh (SqL.of h2)⟩,w1 _ _ _ (Ext.refl e1.fh) (tZ (SqL.of h2) h3)⟩
 |_=>exact w1.elim
theorem gJ(h:PD X Xw l δ):xa X Xw tg l (fB δ):=PI.weak (y4 h) fun σ H R ⟨F,ρ,s,w⟩=>by
 refine⟨F,ρ,s,WP.mono (WPI.bind w) fun v H1 ⟨F1,d,e1,q1,w1⟩=>?_⟩
 cases d with
 |tup ds=>
  obtain⟨a,vs,h1,h2,h3,h4⟩:=q1
  exact⟨a,h1,⟨vs,Same.tup e1.fh (SqT.of h2)⟩,w1 _ _ _ (Ext.refl e1.fh) (vO (SqT.of h2) h3)⟩
 |_=>exact w1.elim
def gP:List D→M (List D)
 |[.int j]=>if -4096≤j∧j≤4096 then M.ret (eA 0 j.toNat) else M.stuck
 |_=>M.stuck
theorem DenL.one{K:W.Frag}{F:Hp}{d:D}{vs:List V}(h:DenL K F [d] vs):∃v,vs=[v]∧Den K F d v:=by
 obtain⟨v,r,h1,h2,h3⟩:=h
 cases (show r=[] from h3)
 exact⟨v,h1,h2⟩
theorem DenL.two{K:W.Frag}{F:Hp}{d d':D}{vs:List V}(h:DenL K F [d,d'] vs):∃v v',vs=[v,v']∧Den K F d v∧Den K F d' v':=by
 obtain⟨v,r,h1,h2,h3⟩:=h
 obtain⟨v',h4,h5⟩:=h3.one
 subst h4
 exact⟨v,v',h1,h2,h5⟩
theorem d_{a:Expr}{δs:DA}{p:Pos}(hg:Gl X "range")(hm:X.mg "range"=none)(ha:kG X Xw [a] δs)(hs:starEach [a] X.env=[(false,eval a X.env)]:=by rfl):xa X Xw tg (.Call (.Name "range" p) [a] [] pos) (fun ρ=>δs ρ>>=gP):=
 PI.weak (sE hg hm ha hs) fun σ H R ⟨F,ρ,s,w⟩=>by
  refine⟨F,ρ,s,WPL.mono (WPI.bindL w) fun vs H1 ⟨F1,ds,e1,q1,w1⟩=>?_⟩
  unfold gP at w1
  split at w1
  ·rename_i j
   obtain⟨v,h1,h2⟩:=q1.one
   cases (show v=_ from h2)
   split at w1
   ·exact⟨j,h1,by omega,by omega,w1 _ _ _ (Ext.refl e1.fh) (rY 0 _)⟩
   ·exact w1.elim
  ·exact w1.elim
end
def bZ(tg N:List Str):List Str:=N.map fun y=>if tg.contains y then y++(" ":Str) else y
def fI(X:Cx)(scope:Scope)(tn:List Str)(pins:List (Addr×Obj))(cl:List (Str×Addr))(C:Addr)(fp:List Addr)(s₂:Shared)(H:Hp):Cx:=
 {X with N:=tn++bZ tn X.N,s₀:=s₂,H₀:=H,env:=compEnvC scope cl C X.env,outer:=X.stack,ex:=fp,fn:=fun _=>false,pn:=X.pn++pins,xe:=fun _ _=>False}
structure CompSc (X:Cx) (scope:Scope) (tn:List Str):Prop where
 kind:scope.kind= .function
 nocell:∀y∈scope.names,y.2≠ .cell
 names:∀y∈scope.names,y.2= .local→scope.names.lookup y.1=some .local
 frees:∀y∈scope.names,y.2= .free→X.env.kindOf y.1=some .cell∨X.env.kindOf y.1=some .free
 vis:∀p∈(bZ tn X.N).zip X.N,scope.names.lookup p.1=none∨(p.1=p.2∧scope.names.lookup p.1=some .free)
theorem fR{env:Env}:∀(names:List (Str×NameKind)) (acc:List (Str×Addr)),(∀y∈names,y.2= .free→∃c,env.cells.lookup y.1=some c)→
 (∀x c,acc.lookup x=some c→env.cells.lookup x=some c)→
 ∃cl,(forIn names acc (fun (x:Str×NameKind) (r:List (Str×Addr))=>do
   let __x:=x
   if (__x.2==NameKind.free)=true then do let c←cellOf env __x.1;pure (ForInStep.yield ((__x.1,c)::r)) else pure (ForInStep.yield r)):Sem (List (Str×Addr)))=pure cl∧
  (∀x c,cl.lookup x=some c→env.cells.lookup x=some c)∧(∀x c,acc.lookup x=some c→∃c',cl.lookup x=some c')∧(∀x,names.lookup x=some .free→∃c,cl.lookup x=some c)
 |[],acc,_,h2=>⟨acc,rfl,h2,fun x c e=>⟨c,e⟩,fun x e=>by simp at e⟩
 |(n,k)::r,acc,h1,h2=>by
  by_cases hk:k= .free
  ·subst hk
   obtain⟨c,hc⟩:=h1 (n, .free) List.mem_cons_self rfl
   obtain⟨cl,e,a1,a2,a3⟩:=fR r ((n,c)::acc) (fun y hy=>h1 y (List.mem_cons_of_mem _ hy)) (fun x c' q=>by
    rw[List.lookup_cons] at q
    split at q
    ·rename_i hx
     cases q
     rw[show x=n from by simpa using hx];exact hc
    ·exact h2 x c' q)
   refine⟨cl,?_,a1,fun x c' q=>?_,fun x q=>?_⟩
   ·rw[List.forIn_cons]
    have:cellOf env n=pure c:=by unfold cellOf;rw[hc]
    simp only[beq_self_eq_true,if_true,this,pure_bind]
    exact e
   ·by_cases hx:x=n
    ·subst hx
     exact a2 x c (by simp[List.lookup_cons])
    ·exact a2 x c' (by rw[List.lookup_cons,show (x==n)=false from by simpa using hx];exact q)
   ·rw[List.lookup_cons] at q
    split at q
    ·rename_i hx
     exact a2 x c (by rw[List.lookup_cons,hx])
    ·exact a3 x q
  ·obtain⟨cl,e,a1,a2,a3⟩:=fR r acc (fun y hy=>h1 y (List.mem_cons_of_mem _ hy)) h2
   refine⟨cl,?_,a1,a2,fun x q=>?_⟩
   ·rw[List.forIn_cons]
    have:((k==NameKind.free)=true)=False:=by simpa using hk
    simp only[this,if_false,pure_bind]
    exact e
   ·rw[List.lookup_cons] at q
    split at q
    ·cases q;exact absurd rfl hk
    ·exact a3 x q
theorem jz{scope:Scope}{env:Env}(h:∀y∈scope.names,y.2= .free→∃c,env.cells.lookup y.1=some c):
 ∃cl,closureFor scope env=pure cl∧(∀x c,cl.lookup x=some c→env.cells.lookup x=some c)∧(∀x,scope.names.lookup x=some .free→∃c,cl.lookup x=some c):=by
 obtain⟨cl,e,a1,_,a3⟩:=fR (env:=env) scope.names [] h (fun x c q=>by simp at q)
 refine⟨cl,?_,a1,a3⟩
 unfold closureFor
 show (forIn scope.names [] _>>=fun r=>pure r)=_
 rw[bind_pure]
 exact e
def noex{α:Type}:M α→M α
 |some (.ok a)=>some (.ok a)
 |_=>none
def bL(f:D→M (Option D)):List D→M (List D)
 |[]=>M.ret []
 |d::ds=>f d>>=fun o=>bL f ds>>=fun r=>M.ret (match o with | some y=>y::r | none=>r)
def DL(n:Nat):D→M (List D):=fun d=>match n,d with
 |0,d=>M.ret [d]
 |n, .tup ds=>if ds.length=n then M.ret ds else M.stuck
 |_,_=>M.stuck
def dg(n:Nat)(δt:DT)(δe:DE)(ρ:aT):D→M (Option D):=fun d=>
 DL n d>>=fun ts=>δt (ts.map (fun t=>some (Sl.fz t))++ρ)>>=fun b=>if b then δe (ts.map (fun t=>some (Sl.fz t))++ρ)>>=fun y=>M.ret (some y) else M.ret none
def aW(n:Nat)(δi:DA)(δt:DT)(δe:DE):DE:=fun ρ=>δi ρ>>=fun ds=>noex (bL (dg n δt δe ρ) ds)>>=eR
def bc:DT:=fun _=>M.ret true
theorem bM(f:D→M (Option D))(d:D)(ds:List D):bL f (d::ds)=(f d>>=fun o=>bL f ds>>=fun r=>M.ret (match o with | some y=>y::r | none=>r)):=rfl
theorem pT{f:D→M (Option D)}{ds:List D}{i:Nat}{d:D}{ys R:List D}(hd:ds[i]? =some d)
 (h:bL f ds=(bL f (ds.drop i)>>=fun r=>M.ret (ys++r)))(hR:bL f ds=M.ret R):
 ∃o,f d=M.ret o∧bL f ds=(bL f (ds.drop (i+1))>>=fun r=>M.ret ((match o with | some y=>ys++[y] | none=>ys)++r)):=by
 have e:ds.drop i=d::ds.drop (i+1):=by
  obtain⟨hi,e⟩:=List.getElem?_eq_some_iff.mp hd
  rw[List.drop_eq_getElem_cons hi,e]
 rw[e,bM] at h
 have h':=h.symm.trans hR
 obtain⟨r,h1,h2⟩:=dZ h'
 obtain⟨o,h3,h4⟩:=dZ h1
 refine⟨o,h3,?_⟩
 obtain⟨r',h5,h6⟩:=dZ h4
 rw[h5,hR]
 rw[←h2,←eg h6]
 show M.ret _=M.ret _
 cases o with
 |none=>rfl
 |some y=>simp
theorem rM{prog:Program}{w:World}{A:Around}{R:Result→Shared→Prop}{s:Shared}{elt target iter:Expr}{ifs:List Expr}{scope:Scope}{pos:Pos}{it acc:Value}{env:Env}(I:Nat→Shared→Prop)
 (turn:∀n s,I n s→wpAny (model prog w) A (pyNext it) (fun r s₁=>match r with
  |none=>R (.ok .next) s₁
  |some v=>wpAny (model prog w) A (letOwnedTupleGo target it v) (fun _ DJ=>wpAny (model prog w) A (assign target env v) (fun _ s₂=>
    wpAny (model prog w) A (forIn ifs true fun c r=>if r=true then do let ok←isTrue c env (eval c env);pure (ForInStep.yield ok) else pure (ForInStep.yield r)) (fun ok s₃=>
     if ok=true then wpAny (model prog w) A (eval elt env) (fun x s₄=>
      wpAny (model prog w) A (call (.builtin "list.append") [acc,x]) (fun _ s₅=>∃m,m<n∧I m s₅) (notedBy (model prog w) A env fun e s'=>R (.error e) s') s₄) (notedBy (model prog w) A env fun e s'=>R (.error e) s') s₃
     else∃m,m<n∧I m s₃) (notedBy (model prog w) A env fun e s'=>R (.error e) s') s₂) (notedBy (model prog w) A env fun e s'=>R (.error e) s') DJ) (notedBy (model prog w) A env fun e s'=>R (.error e) s') s₁) (notedBy (model prog w) A env fun e s'=>R (.error e) s') s)
 (n:Nat) (h:I n s):
 codeAny (model prog w) A (.compLoop (.ListComp elt [⟨target,iter,ifs,0⟩] scope pos) 0 it acc env) R s:=by
 refine codeAny_loop rfl I (fun n s hI=>?_) n h
 show wpAny _ A ((compTurn (.ListComp elt [⟨target,iter,ifs,0⟩] scope pos) 0 it acc env).onRaise (fun x=>do noteFrame x env;theTreesLotGoes x)) _ _ s
 refine wpAny_noted ?_
 rw[compTurn_list]
 refine wpAny_bind (wpAny_standAt (wpAny_bind (wpAny_mono (turn n s hI) (fun r s₁ h₁=>?_) fun _ _ h'=>h')))
 cases r with
 |none=>exact wpAny_pure h₁
 |some v=>
  refine wpAny_bind (wpAny_mono h₁ (fun _ DJ h₁=>?_) fun _ _ h'=>h')
  refine wpAny_bind (wpAny_mono h₁ (fun _ s₂ h₂=>wpAny_bind (wpAny_mono h₂ (fun ok s₃ h₃=>?_) fun _ _ h'=>h')) fun _ _ h'=>h')
  cases ok with
  |false=>exact wpAny_pure ⟨rfl,h₃⟩
  |true=>
   exact wpAny_bind (wpAny_bind (wpAny_mono h₃ (fun x s₄ h₄=>wpAny_bind (wpAny_mono h₄ (fun _ s₅ h₅=>wpAny_pure (wpAny_pure ⟨rfl,h₅⟩)) fun _ _ h'=>h')) fun _ _ h'=>h'))
def rD(X:Cx)(tg:Expr)(n:Nat)(σ:St):Prop:=∀(pins:List (Addr×Obj)) (s:Shared) (σ':St) (F H:Hp) (d:D) (ts:List D) (v:V) (u:Value),Inv X pins σ' H s→Same F H→σ'.drop (max n 1)=σ→RelV v u→Den X.K F d v→DL n d=M.ret ts→
 wpAny (model X.prog X.w) X.A (assign tg X.env u) (fun _ s'=>∃vs,Inv X pins (vs.map some++σ) H s'∧DenL X.K F ts vs) X.xe s
def g8(X:Cx)(ifs:List Expr)(δt:DT):Prop:=∀(pins:List (Addr×Obj)) (s:Shared) (σ:St) (H:Hp) (Q:Bool→Hp→Prop),Inv X pins σ H s→CO X.K (fun _ _=>False) δt σ H Q→
 wpAny (model X.prog X.w) X.A (forIn ifs true fun c r=>if r=true then do let ok←isTrue c X.env (eval c X.env);pure (ForInStep.yield ok) else pure (ForInStep.yield r)) (TP X pins σ Q) X.xe s
theorem b6{X:Cx}:g8 X [] bc:=fun pins s σ H Q I ⟨F,ρ,S,w⟩=>wpAny_tests_nil ⟨H,I,w H F (Ext.refl S.fh)⟩
theorem pw{X:Cx}{c:Expr}{δ:DT}(h:nS X (fun _ _=>False) c δ):g8 X [c] δ:=fun pins s σ H Q I w=>wpAny_tests_one (h pins s σ H Q I w)
theorem StE.cons{K:W.Frag}{F H:Hp}{σ:St}{ρ:aT}{ts:List D}{vs:List V}(s:StE K F H σ ρ)(h:DenL K F ts vs):StE K F H (vs.map some++σ) (ts.map (fun t=>some (Sl.fz t))++ρ):=by
 refine⟨s.fh,fun i sl e=>?_⟩
 have hl:=h.len
 by_cases hi:i<ts.length
 ·rw[List.getElem?_append_left (by simpa using hi),List.getElem?_map] at e
  cases q:ts[i]? with
  |none=>rw[q] at e;cases e
  |some t=>
   rw[q] at e
   cases e
   obtain⟨v,e1,e2⟩:=h.get q
   exact⟨v,by rw[List.getElem?_append_left (by simp;omega),List.getElem?_map,e1];rfl,e2⟩
 ·rw[List.getElem?_append_right (by simpa using hi)] at e
  obtain⟨v,e1,e2⟩:=s.den _ _ e
  refine⟨v,?_,e2⟩
  rw[List.getElem?_append_right (by simp;omega)]
  simpa[hl] using e1
theorem WPB.take{Xw:Nat→Hp→Prop}{F H:Hp}{b:Bool}:WPB Xw F H (M.ret b) fun b' H'=>b'=b∧∃F',Ext F H F' H':=fun H' F' e=>⟨rfl,F',e⟩
theorem WP.take{K:W.Frag}{Xw:Nat→Hp→Prop}{F H:Hp}{d:D}:WP K Xw F H (M.ret d) fun v H'=>∃F',Ext F H F' H'∧Den K F' d v:=fun v H' F' e q=>⟨F',e,q⟩
def iu(env:Env)(p:Str×NameKind):Str×NameKind:=if (p.2== .free&&env.scope.kind== .function&&env.kindOf p.1==some .cell) then(p.1, .cell) else(p.1,p.2)
theorem dF(scope:Scope)(env:Env):(relabel scope env).names=scope.names.map (iu env):=rfl
theorem uY(env:Env)(p:Str×NameKind):(iu env p).1=p.1:=by unfold iu;split<;>rfl
theorem d6(env:Env)(x:Str):∀ns:List (Str×NameKind),(ns.map (iu env)).lookup x=(ns.lookup x).map fun k=>(iu env (x,k)).2
 |[]=>rfl
 |(m,k)::r=>by
  rw[List.map_cons,List.lookup_cons,List.lookup_cons]
  have e:iu env (m,k)=(m,(iu env (m,k)).2):=Prod.ext (uY env (m,k)) rfl
  rw[e]
  dsimp only
  by_cases hx:(x==m)=true
  ·have hm:x=m:=by simpa using hx
   subst hm
   rw[hx]
   rfl
  ·have hx:(x==m)=false:=by simpa using hx
   rw[hx]
   exact d6 env x r
theorem m8{scope:Scope}{env:Env}{x:Str}(h:scope.names.lookup x=none):(relabel scope env).names.lookup x=none:=by
 rw[dF,d6,h];rfl
theorem m7{scope:Scope}{env:Env}{x:Str}(hc:∀y∈scope.names,y.2≠ .cell)(h:(relabel scope env).names.lookup x=some .cell∨(relabel scope env).names.lookup x=some .free):scope.names.lookup x=some .free:=by
 rw[dF,d6] at h
 cases q:scope.names.lookup x with
 |none=>rw[q] at h;rcases h with h | h<;>cases h
 |some k=>
  rw[q] at h
  have hk:k≠ .cell:=hc _ (PySem.mem_of_lookup q)
  have h:(iu env (x,k)).2= .cell∨(iu env (x,k)).2= .free:=by simpa using h
  by_cases hf:k= .free
  ·rw[hf]
  ·have:(iu env (x,k)).2=k:=by
    unfold iu
    rw[if_neg]
    simp[hf]
   rw[this] at h
   rcases h with h | h
   ·exact absurd h hk
   ·exact absurd h hf
theorem iw{scope:Scope}{env:Env}{x:Str}(h:scope.names.lookup x=some .free):¬(relabel scope env).names.lookup x=some .local:=by
 rw[dF,d6,h]
 intro z
 have z:(iu env (x, .free)).2= .local:=by simpa using z
 unfold iu at z
 split at z<;>cases z
structure BlockEnd (X:Cx) (pins:List (Addr×Obj)) (C:Addr) (H':Hp) (s1:Shared):Prop where
 ns:∃m,s1.heap.Ns C m
 free:H' C=none
 nl:C≠X.env.locals
 nw:X.s₀.heap.objs.size≤C
 nc:∀x c,X.env.cells.lookup x=some c→c≠C
 np:∀p∈X.pn++pins,p.1≠C
theorem n3{X:Cx}{Xw:Nat→Hp→Prop}{elt iter tg:Expr}{ifs:List Expr}{scope:Scope}{pos:Pos}{tn:List Str}{n:Nat}{δi:DA}{δt:DT}{δe:DE}{cl:List (Str×Addr)}{pins:List (Addr×Obj)}{s:Shared}{σ:St}{H F:Hp}{ρ:aT}{Q:VK}{RR:Value→Addr→Result→Shared→Prop}
 (sc:CompSc X scope tn)(hn:tn.length=max n 1)(hc:X.calm=true)(hi:xa X Xw tg iter δi)
 (hg:∀pins cl C fp s₂ H σ,rD (fI X scope tn pins cl C fp s₂ H) tg n σ)
 (ht:∀pins cl C fp s₂ H,g8 (fI X scope tn pins cl C fp s₂ H) ifs δt)
 (he:∀pins cl C fp s₂ H,PD (fI X scope tn pins cl C fp s₂ H) (fun _ _=>False) elt δe)
 (I:Inv X pins σ H s)(S:StE X.K F H σ ρ)(w:WP X.K Xw F H (aW n δi δt δe ρ) Q)
 (s_:∀x c,cl.lookup x=some c→X.env.cells.lookup x=some c)(zt:∀x,scope.names.lookup x=some .free→∃c,cl.lookup x=some c)
 (D_:∀(s1:Shared) (C D:Addr) (H':Hp),Inv X pins σ H' s1→Q (.ref D) H'→BlockEnd X pins C H' s1→RR (.ref D) C (.ok .next) s1):
 wpAny (model X.prog X.w) X.A (eval iter X.env) (fun x s₁=>wpAny (model X.prog X.w) X.A (pyIter x) (fun it s₂=>wpAny (model X.prog X.w) X.A (newList []) (fun acc s₃=>
  wpAny (model X.prog X.w) X.A (newFunctionEnv scope X.env.globals cl [] X.env.qual none .none (some X.env)) (fun zM s₄=>
   codeAny (model X.prog X.w) X.A (.compStart (.ListComp elt [⟨tg,iter,ifs,0⟩] scope pos) 0 it acc {zM with scope:=relabel scope X.env}) (RR acc zM.locals) s₄) X.xe s₃) X.xe s₂) X.xe s₁) X.xe s:=by
 refine bC (hi pins s σ H (fun J H2=>∃F2 ds,Ext F H F2 H2∧ItD X.K F2 J ds∧WP X.K Xw F2 H2 (noex (bL (dg n δt δe ρ) ds)>>=eR) Q) I ⟨F,ρ,S,?_⟩) fun xv s₁ h₁=>bC h₁ fun it s₂ h₂=>?_
 ·unfold aW at w
  rcases(δi ρ).cs with hq | ⟨m,hq⟩ | ⟨ds,hq⟩
  ·rw[hq] at w;exact w.elim
  ·rw[hq] at w⊢;exact w
  ·rw[hq] at w⊢;exact fun J H' F' e q=>⟨F',ds,e,q,WP.ext e w⟩
 obtain⟨ia,fp,DM,J,H2,rfl,I2,T,AQ,f2,F2,ds,e2,Dx,w2⟩:=h₂
 obtain⟨R,hR,Di,w2⟩:∃R,bL (dg n δt δe ρ) ds=M.ret R∧R.length≤lim∧WP X.K Xw F2 H2 (M.ret (.lst R)) Q:=by
  rcases(bL (dg n δt δe ρ) ds).cs with hq | ⟨m,hq⟩ | ⟨R,hq⟩
  ·rw[hq] at w2;exact w2.elim
  ·rw[hq] at w2;exact w2.elim
  ·rw[hq] at w2
   obtain⟨h1,h2⟩:=p8 (X:=X) (f:=D.lst) (show WP X.K Xw F2 H2 (eR R) Q from w2)
   exact⟨R,hq,h1,h2⟩
 refine wpAny_newObj_type (wpAny_newFunctionEnv sc.nocell (by intro y hy;simp at hy) (fun h₁ ym vJ=>?_) sc.kind)
 dsimp only at ym vJ⊢
 generalize BN:s₂.heap.push {cls:= .type "list",dict:=none,data:= .seq ([]:List Value).toArray}=HL at ym vJ⊢
 have hC:HL.objs.size=s₂.heap.objs.size+1:=by rw[←BN,Heap.size_push]
 have rR:s₂.heap.objs.size<HL.objs.size:=by rw[hC];exact Nat.lt_succ_self _
 have old:∀b o,s₂.heap.get? b=some o→h₁.get? b=some o:=fun b o e=>vJ.extBut b o (Nat.ne_of_lt (Nat.lt_trans (Heap.lt_size e) rR)) (Heap.get?_push_of_some _ (BN▸Heap.get?_push_of_some _ e))
 have BQ:h₁.get? s₂.heap.objs.size=some {cls:= .type "list",data:= .seq ([]:List Value).toArray}:=vJ.extBut _ _ (Nat.ne_of_lt rR) (Heap.get?_push_of_some _ (BN▸Heap.get?_push_size _ rfl))
 have nD:H2 s₂.heap.objs.size=none:=I2.hok.fresh (Nat.le_refl _)
 have nC:H2 HL.objs.size=none:=I2.hok.fresh (Nat.le_of_lt rR)
 have gC:s₂.heap.get? HL.objs.size=none:=Heap.get?_none_of_le (Nat.le_of_lt rR)
 have fl:∀b∈fp,b<s₂.heap.objs.size:=fun b hb=>by
  obtain⟨o,e,_⟩:=T.obj 0 _ AQ b hb
  exact Heap.lt_size e
 generalize oz:fI X scope tn pins cl HL.objs.size fp s₂ H2=X'
 have DG:X'.Ok:=by
  subst oz
  refine⟨I2.ok.mod,sc.kind,I2.ok.glob,I2.ok.blt,Nat.le_of_lt rR,fun x y c h1 h2=>I2.ok.inj x y c (s_ _ _ h1) (s_ _ _ h2),fun x hx=>?_,fun _ _ h=>(by cases h),I2.ok.hd,I2.ok.frames, .inl rfl,
   fun b hb=>⟨Nat.ne_of_lt (Nat.lt_trans (fl b hb) rR),fun x c h=>(f2 b hb).2.2.2.2.1 x c (s_ _ _ h)⟩,I2.bs,Nat.le_trans I2.ok.bsz I2.sz,fun b o e hb=>?_,fun b hb z=>?_,I2.stack,I2.stkFree⟩
  ·have hx:(relabel scope X.env).names.lookup x=some .cell∨(relabel scope X.env).names.lookup x=some .free:=hx
   exact zt x (m7 sc.nocell hx)
  ·rcases(f2 b hb).2.2.2.1 with z | z
   ·exact I2.ok.noex b o e z
   ·exact absurd (Nat.lt_of_lt_of_le (Heap.lt_size (I2.ok.bs b o e).1) z) (Nat.lt_irrefl _)
  ·rcases List.mem_cons.mp (I2.stkSub b z) with q | q
   ·exact(f2 b hb).2.1 q
   ·exact(f2 b hb).2.2.1 q
 have Cw:∀b o,H2 b=some o→b≠s₂.heap.objs.size:=fun b o e=>bt e nD
 have ya:∀{H':Hp},(∀b∈fp,H' b=none)→∀b∈fp,nR X' [] H' b:=fun Eu b hb=>by
  subst oz
  refine⟨Eu b hb,Nat.ne_of_lt (Nat.lt_trans (fl b hb) rR),fun z=>DG.exfs b hb z, .inl hb,fun x c h=>(f2 b hb).2.2.2.2.1 x c (s_ _ _ h),fun p hp=>?_⟩
  rw[List.append_nil] at hp
  exact(f2 b hb).2.2.2.2.2 p hp
 have I0:Inv X' [] (List.replicate (max n 1) none++σ) (upd H2 s₂.heap.objs.size (.lst [])) {s₂ with heap:=h₁,toks:=s₂.toks+([]:List (Str×Value)).length}:=by
  subst oz
  have Cb:HOk X.prog X.w (upd H2 s₂.heap.objs.size (.lst [])) h₁:=I2.hok.laid old (Nat.le_refl _) ⟨Nat.zero_le _,[],_, .nil,BQ⟩
  refine⟨DG,rfl,I2.bare,Un.laid old (Nat.le_refl _) nD,⟨_,ym,fun i x v h1 h2 h3=>?_⟩,fun x c h=>?_,?_,fun x c h=>?_,fun p hp=>?_,Cb,?_⟩
  ·by_cases hi:i<max n 1
   ·rw[List.getElem?_append_left (by simpa using hi),List.getElem?_replicate,if_pos hi] at h2
    cases h2
   ·have B1:tn.length≤i:=by omega
    have h1:(tn++bZ tn X.N)[i]? =some x:=h1
    rw[List.getElem?_append_right B1] at h1
    rw[List.getElem?_append_right (by simpa using hi),List.length_replicate,←hn] at h2
    have hN:∃y,X.N[i - tn.length]? =some y∧(x,y)∈(bZ tn X.N).zip X.N:=by
     have lG:=(List.getElem?_eq_some_iff.mp h1).1
     have Ad:i - tn.length<X.N.length:=by simpa[bZ] using lG
     refine⟨X.N[i - tn.length],List.getElem?_eq_getElem Ad,?_⟩
     refine List.mem_iff_getElem?.mpr ⟨i - tn.length,?_⟩
     rw[List.getElem?_zip_eq_some]
     exact⟨h1,List.getElem?_eq_getElem Ad⟩
    obtain⟨y,hy,hm⟩:=hN
    have hV:(relabel scope X.env).names.lookup x=some .local∨(relabel scope X.env).names.lookup x=some .cell∨(relabel scope X.env).names.lookup x=some .free:=h3
    rcases sc.vis _ hm with yl | ⟨Cj,xr⟩
    ·have yl:scope.names.lookup x=none:=yl
     have:(relabel scope X.env).names.lookup x=none:=m8 yl
     rw[this] at hV
     rcases hV with z | z | z<;>cases z
    ·have Cj:x=y:=Cj
     subst Cj
     have xr:scope.names.lookup x=some .free:=xr
     have hk:=sc.frees (x, .free) (PySem.mem_of_lookup xr) rfl
     obtain⟨m,B9,Dm⟩:=I2.loc
     obtain⟨u,ru,lk⟩:=Dm _ x v hy h2 (by rcases hk with z | z;exact .inr (.inl z);exact .inr (.inr z))
     refine⟨u,ru, .inr ⟨?_,?_⟩⟩
     ·rcases hV with z | z | z
      ·exact absurd z (iw xr)
      ·exact .inl z
      ·exact .inr z
     ·rcases lk with⟨z,_⟩ | ⟨_,c,Eg,yg⟩
      ·rcases hk with q | q
       ·rw[show X.env.kindOf x=some .local from z] at q;cases q
       ·rw[show X.env.kindOf x=some .local from z] at q;cases q
      ·obtain⟨c',xn⟩:=zt x xr
       have:=s_ _ _ xn
       rw[Eg] at this
       cases this
       obtain⟨o,ho,hd⟩:=yg
       exact⟨c,xn,o,old _ _ ho,hd⟩
  ·obtain⟨v,o,ho,hd⟩:=I2.cell x c (s_ _ _ h)
   exact⟨v,o,old _ _ ho,hd⟩
  ·show upd H2 s₂.heap.objs.size (.lst []) HL.objs.size=none
   rw[aq (Nat.ne_of_gt rR)]
   exact nC
  ·have z6:=s_ _ _ h
   obtain⟨v,q⟩:=I2.cell x c z6
   rw[aq (Nat.ne_of_lt q.lt)]
   exact I2.freeC x c z6
  ·rw[List.append_nil] at hp
   obtain⟨e,nn,ne,nf,d⟩:=I2.pin p hp
   have lG:=Heap.lt_size e
   refine⟨old _ _ e,by rw[aq (Nat.ne_of_lt lG)];exact nn,Nat.ne_of_lt (Nat.lt_trans lG rR),fun z=>?_,d⟩
   rcases List.mem_cons.mp (I2.stkSub p.1 z) with q | q
   ·exact ne q
   ·exact nf q
  ·show (List.replicate (max n 1) none++σ).length=(tn++bZ tn X.N).length
   rw[List.length_append,List.length_append,List.length_replicate,hn,show (bZ tn X.N).length=X.N.length from by simp[bZ],I2.len]
 have loop:∀s₃:Shared,s₃={s₂ with heap:=h₁,toks:=s₂.toks+([]:List (Str×Value)).length}→
  codeAny (model X.prog X.w) X.A (.compLoop (.ListComp elt [⟨tg,iter,ifs,0⟩] scope pos) 0 (.ref ia) (.ref s₂.heap.objs.size) (compEnvC scope cl HL.objs.size X.env))
   (RR (.ref s₂.heap.objs.size) HL.objs.size) s₃:=by
  intro s₃ EG
  have tG:X'.env=compEnvC scope cl HL.objs.size X.env:=by subst oz;rfl
  have hA:X'.A=X.A:=by subst oz;rfl
  have hP:X'.prog=X.prog:=by subst oz;rfl
  have hw:X'.w=X.w:=by subst oz;rfl
  have hK:X'.K=X.K:=by subst oz;rfl
  have EM:X'.xe=fun _ _=>False:=by subst oz;rfl
  have xo:X'.calm=true:=by subst oz;exact hc
  have Ej:X'.fs=jk X.stack:=by subst oz;rfl
  have hex:X'.ex=fp:=by subst oz;rfl
  have D9:X'.H₀=H2:=by subst oz;rfl
  have Dt:X'.s₀=s₂:=by subst oz;rfl
  have pass:∀{α:Type}{t:Sem α}{P:α→Shared→Prop}{E':Value→Shared→Prop}{s:Shared},wpAny (model X'.prog X'.w) X'.A t P X'.xe s→wpAny (model X.prog X.w) X.A t P E' s:=fun {α t P E' s} h=>by
   rw[hP,hw,hA,EM] at h
   exact wpAny_mono h (fun _ _ q=>q) fun _ _ q=>q.elim
  refine rM (fun m s'=>∃(i:Nat) (F' H':Hp) (vs:List V) (ys:List D) (σt:St),m=ds.length - i∧i≤ds.length∧σt.length=max n 1∧Inv X' [] (σt++σ) H' s'∧DM i s'.heap∧(∀b∈fp,H' b=none)∧Ext F2 H2 F' H'∧
   H' s₂.heap.objs.size=some (.lst vs)∧F' s₂.heap.objs.size=none∧DenL X.K F' ys vs∧bL (dg n δt δe ρ) ds=(bL (dg n δt δe ρ) (ds.drop i)>>=fun r=>M.ret (ys++r))) ?_ ds.length ?_
  ·rintro m s' ⟨i,F',H',vs,ys,σt,rfl,B3,EN,I',pj,C9,pX,hD,fD,Bg,heq⟩
   by_cases lG:i<ds.length
   ·
    obtain⟨d,hd⟩:∃d,ds[i]? =some d:=⟨_,List.getElem?_eq_getElem lG⟩
    obtain⟨B0,yo⟩:=(Dx F' H' i pX.ff pX.fh).1 d hd
    obtain⟨o,ho,z8⟩:=pT hd heq hR
    have Ck:ys.length≤lim:=by
     rw[heq] at hR
     obtain⟨r,_,hr⟩:=dZ hR
     rw[←eg hr,List.length_append] at Di
     omega
    obtain⟨ts,EI,ho⟩:=dZ ho
    refine pass ?_
    rw[hP,hw]
    refine bC (T.item X' hP hw hK xo i [] s' (σt++σ) H' X'.xe I' (ya C9) pj B0) ?_
    rintro r s1 ⟨u,rfl,h1⟩
    refine pass ?_
    rw[hP,hw]
    refine bC h1 ?_
    rintro _ s2 ⟨x,H3,I3,rx,y3,zB,A_⟩
    obtain⟨F3,sT,q3⟩:=yo x H3 y3
    have Dd:H3 s₂.heap.objs.size=some (.lst vs):=sT.hh _ _ hD
    have D2:F3 s₂.heap.objs.size=none:=by rw[sT.old hD (fun _ z=>nomatch z)];exact fD
    have I3':=I3.pinned (ya A_) (T.obj _ _ zB)
    have qX:∀{σ7:St}{H7:Hp}{s7:Shared},Inv X' ([]++j7 fp s2.heap) σ7 H7 s7→DM (i+1) s7.heap∧∀b∈fp,H7 b=none:=fun {σ7 H7 s7} I7=>
     ⟨T.keep _ _ _ zB fun b hb o e=>(I7.pin (b,o) (List.mem_append_right _ (List.mem_append_right _ (d7 hb e)))).1,fun b hb=>by
      obtain⟨o,e,_⟩:=T.obj _ _ zB b hb
      exact(I7.pin (b,o) (List.mem_append_right _ (List.mem_append_right _ (d7 hb e)))).2.1⟩
    have Ek:rD X' tg n σ:=by subst oz;exact hg _ _ _ _ _ _ _
    have EH:g8 X' ifs δt:=by subst oz;exact ht _ _ _ _ _ _
    have Eh:PD X' (fun _ _=>False) elt δe:=by subst oz;exact he _ _ _ _ _ _
    refine pass ?_
    rw[←tG]
    refine bC (Ek _ s2 (σt++σ) F3 H3 d ts x u I3' sT.fh (by rw[←EN];simp) rx (by rw[hK];exact q3) EI) ?_
    rintro _ s4 ⟨vt,I4,dt⟩
    rw[hK] at dt
    have S4:StE X.K F3 H3 (vt.map some++σ) (ts.map (fun t=>some (Sl.fz t))++ρ):=StE.cons ((S.ext e2).ext (pX.trans sT)) dt
    obtain⟨b,hb,ho⟩:=dZ ho
    refine pass ?_
    try rw[←tG]
    refine bC (EH _ s4 _ H3 (fun b' H5=>b'=b∧∃F5,Ext F3 H3 F5 H5) I4 ⟨F3,_,by rw[hK];exact S4,by rw[hb];exact WPB.take⟩) ?_
    rintro b' s5 ⟨H5,I5,rfl,F5,x9⟩
    have BM:H5 s₂.heap.objs.size=some (.lst vs):=x9.hh _ _ Dd
    have C6:F5 s₂.heap.objs.size=none:=by rw[x9.old Dd (fun _ z=>nomatch z)];exact D2
    cases b' with
    |false=>
     rw[if_neg Bool.false_ne_true] at ho⊢
     obtain rfl:=eg ho
     refine⟨ds.length - (i+1),by omega,i+1,F5,H5,vs,ys,vt.map some,rfl,lG,?_,I5.unpinned,(qX I5).1,(qX I5).2,pX.trans (sT.trans x9),BM,C6,DenL.mono (sT.trans x9).ff Bg,z8⟩
     have h1:=I5.len
     have h2:=I3.len
     rw[List.length_append] at h1 h2
     omega
    |true=>
     rw[if_pos rfl] at ho⊢
     obtain⟨yv,hy,ho⟩:=dZ ho
     obtain rfl:=eg ho
     refine pass ?_
     try rw[←tG]
     refine bC (Eh _ s5 _ H5 (fun v H6=>∃F6,Ext F5 H5 F6 H6∧Den X.K F6 yv v) I5 ⟨F5,_,by rw[hK];exact S4.ext x9,by rw[hy,hK];exact WP.take⟩) ?_
     rintro xv s6 ⟨v,H6,I6,rv,F6,A9,qv⟩
     have D8:H6 s₂.heap.objs.size=some (.lst vs):=A9.hh _ _ BM
     have C7:F6 s₂.heap.objs.size=none:=by rw[A9.old BM (fun _ z=>nomatch z)];exact C6
     have EK:vs.length<sizeLine:=by
      have:=Bg.len
      have:=cj
      omega
     refine pass ?_
     refine bC (lM _ s6 _ H6 (.ref s₂.heap.objs.size) [v] (.ref s₂.heap.objs.size) [xv] (fun _ H7=>H7=upd H6 s₂.heap.objs.size (.lst (vs++[v]))) I6 rfl (.cons rv .nil) ⟨_,vs,v,rfl,rfl,D8,EK,rfl⟩) ?_
     rintro _ s7 ⟨_,H7,I7,_,rfl⟩
     have D1:Ext F2 H2 F6 (upd H6 s₂.heap.objs.size (.lst (vs++[v]))):=by
      have e:=pX.trans (sT.trans (x9.trans A9))
      refine⟨fun b u q=>?_,e.ff,fun b u q=>?_,e.new⟩
      ·rw[aq (Cw b u q)];exact e.hh b u q
      ·rw[aq (fun z=>by rw[z,C7] at q;cases q)];exact e.fh b u q
     refine⟨ds.length - (i+1),by omega,i+1,F6,_,vs++[v],ys++[yv],vt.map some,rfl,lG,?_,I7.unpinned,(qX I7).1,(qX I7).2,D1,ax,C7,
      DenL.append (DenL.mono (sT.trans (x9.trans A9)).ff Bg) (.cons qv .nil),z8⟩
     have h1:=I5.len
     have h2:=I3.len
     rw[List.length_append] at h1 h2
     omega
   ·
    have hi:i=ds.length:=by omega
    subst hi
    rw[List.drop_length] at heq
    have Ea:R=ys:=by
     rw[heq] at hR
     have hR:M.ret (ys++[])=M.ret R:=hR
     rw[←eg hR,List.append_nil]
    subst Ea
    refine pass ?_
    rw[hP,hw]
    refine bC (T.done X' hP hw hK xo ds.length [] s' (σt++σ) H' X'.xe I' (ya C9) pj ((Dx F' H' ds.length pX.ff pX.fh).2 (Nat.le_refl _))) ?_
    rintro r s1 ⟨rfl,I1⟩
    obtain⟨m,hm,_⟩:=I1.loc
    rw[tG] at hm
    have D7:H' HL.objs.size=none:=by
     have:=I1.free
     rw[tG] at this
     exact this
    have u:=I1.base
    rw[Ej,hex,D9,Dt] at u
    have tV:s1.os=s₂.os:=by have:=I1.os;rw[Dt] at this;exact this
    have z9:=I1.hok
    rw[hP,hw] at z9
    refine D_ s1 HL.objs.size s₂.heap.objs.size H' (I2.call' (s':=s1) (ch:=fp) tV u z9 I1.bare (fun b hb=>⟨(f2 b hb).2.2.2.1,(f2 b hb).2.1,(f2 b hb).2.2.2.2.1,(f2 b hb).2.2.2.2.2⟩)) ?_
     ⟨⟨m,hm⟩,D7,Nat.ne_of_gt (Nat.lt_trans I2.lt rR),Nat.le_trans I2.sz (Nat.le_of_lt rR),fun x c q z=>?_,fun p hp z=>?_⟩
    rotate_left
    ·obtain⟨v,q'⟩:=I2.cell x c q
     exact absurd (Nat.lt_trans q'.lt rR) (by rw[z];exact Nat.lt_irrefl _)
    ·exact absurd (Nat.lt_trans (Heap.lt_size (I2.pin p hp).1) rR) (by rw[z];exact Nat.lt_irrefl _)
    refine WP.fin w2 (F':=upd F' s₂.heap.objs.size (.lst vs)) ⟨pX.hh,fun b u q=>?_,fun b u q=>?_,fun a ha=>?_⟩ ⟨_,vs,rfl,ax,DenL.mono (fun b u q=>?_) Bg,Di⟩
    ·rw[aq (fun z=>by have:=pX.ff b u q;rw[z,fD] at this;cases this)];exact pX.ff b u q
    ·by_cases z:b=s₂.heap.objs.size
     ·rw[z,ax] at q;rw[z,hD];exact q
     ·rw[aq z] at q;exact pX.fh b u q
    ·rcases pX.new a ha with q | q
     ·exact .inl (by rw[aq (fun z=>ha (by rw[z];exact nD))];exact q)
     ·exact .inr q
    ·rw[aq (fun z=>by rw[z,fD] at q;cases q)];exact q
  ·rw[EG]
   refine⟨0,F2,_,[],[],List.replicate (max n 1) none,by simp,Nat.zero_le _,by simp,I0,T.keep _ _ _ AQ (fun b hb o e=>old b o e),fun b hb=>?_,⟨fun b u q=>?_,Same.refl _,fun b u q=>?_,fun _ _=> .inl rfl⟩,ax,Same.free e2.fh nD,rfl,?_⟩
   ·rw[aq (Nat.ne_of_lt (fl b hb))];exact(f2 b hb).1
   ·rw[aq (Cw b u q)];exact q
   ·rw[aq (Cw b u (e2.fh b u q))];exact e2.fh b u q
   ·rw[List.drop_zero]
    rcases(bL (dg n δt δe ρ) ds).cs with hq | ⟨m,hq⟩ | ⟨R,hq⟩<;>rw[hq]<;>rfl
 exact codeAny_compStart_list (loop _ rfl) (T.self X.A 0 _ _ _ (T.keep _ _ _ AQ (fun b hb o e=>old b o e)) (loop _ rfl))
theorem Inv.block{X:Cx}{pins:List (Addr×Obj)}{σ:St}{H':Hp}{s1:Shared}{C:Addr}{h':Heap}(I:Inv X pins σ H' s1)(b:BlockEnd X pins C H' s1)(Ag:Heap.SameBut C s1.heap h'):Inv X pins σ H' {s1 with heap:=h'}:=
 I.turned (t':=s1.toks) (fun a o ha e=>(Ag.2 a ha).trans e) b.free b.nl (.inr b.nw) b.nc b.np
section
variable{X:Cx}{Xw:Nat→Hp→Prop}{elt iter tg:Expr}{ifs:List Expr}{scope:Scope}{pos:Pos}{tn:List Str}{n:Nat}{δi:DA}{δt:DT}{δe:DE}
theorem cB(sc:CompSc X scope tn)(hn:tn.length=max n 1)(hc:X.calm=true)(hi:xa X Xw tg iter δi)
 (hg:∀pins cl C fp s₂ H σ,rD (fI X scope tn pins cl C fp s₂ H) tg n σ)
 (ht:∀pins cl C fp s₂ H,g8 (fI X scope tn pins cl C fp s₂ H) ifs δt)
 (he:∀pins cl C fp s₂ H,PD (fI X scope tn pins cl C fp s₂ H) (fun _ _=>False) elt δe)
 (hs:∀x,foldedSetIterable iter X.env x=pure x:=by intro _;rfl):
 PD X Xw (.ListComp elt [⟨tg,iter,ifs,0⟩] scope pos) (aW n δi δt δe):=by
 intro pins s σ H Q I ⟨F,ρ,S,w⟩
 obtain⟨cl,tQ,s_,zt⟩:=jz (scope:=scope) (env:=X.env) fun y hy hf=>I.ok.has y.1 (sc.frees y hy hf)
 rw[eval_ListComp]
 refine wpAny_comprehension_free (use:=none) rfl hs tQ sc.kind sc.names (n3 (RR:=fun acc C=>compPost (model X.prog X.w) X.A X.xe none (EP X pins σ Q) acc C) sc hn hc hi hg ht he I S w s_ zt fun s1 C D H' I1 q b=>?_)
 obtain⟨m,hm⟩:=b.ns
 exact⟨m,hm,fun h' Ag=>⟨.ref D,H',Inv.block I1 b Ag,rfl,q⟩⟩
end
inductive Out where
 |nx (ρ:aT) | rt (d:D)
abbrev DS:=aT→M Out
structure StOk (K:W.Frag) (F₀ H₀ F H:Hp) (σ:St) (ρ:aT):Prop where
 ext:Ext F₀ H₀ F H
 st:StE K F H σ ρ
 len:ρ.length=σ.length
 own:∀(i:Nat) (c:C) (a:Addr),ρ[i]? =some (some (.ow c))→σ[i]? =some (some (.ref a))→H₀ a=none
 sep:∀(i j:Nat) (c c':C) (a:Addr),ρ[i]? =some (some (.ow c))→ρ[j]? =some (some (.ow c'))→σ[i]? =some (some (.ref a))→σ[j]? =some (some (.ref a))→i=j
def WPS(K:W.Frag)(Xw:Nat→Hp→Prop)(F₀ H₀:Hp)(m:M Out)(Dn:Ends):Prop:=
 match m with
 |none=>False
 |some (.ok (.nx ρ))=>∀σ F H,StOk K F₀ H₀ F H σ ρ→Dn.nx σ H
 |some (.ok (.rt d))=>∀v F H,Ext F₀ H₀ F H→Den K F d v→Dn.rt v H
 |some (.ex n)=>∀F H,Ext F₀ H₀ F H→Xw n H
def tS(K:W.Frag)(Xw:Nat→Hp→Prop)(F₀ H₀:Hp)(τ:DS):TS:=fun Dn σ H=>∃F ρ,StOk K F₀ H₀ F H σ ρ∧WPS K Xw F₀ H₀ (τ ρ) Dn
def eB(X:Cx)(Xw:Nat→Hp→Prop)(st:Stmt)(τ:DS):Prop:=∀F₀ H₀,PS X st (tS X.K Xw F₀ H₀ τ)
def PSDs(X:Cx)(Xw:Nat→Hp→Prop)(st:List Stmt)(τ:DS):Prop:=∀F₀ H₀,PSs X st (tS X.K Xw F₀ H₀ τ)
theorem PS.weak{X:Cx}{st:Stmt}{t t':TS}(h:PS X st t)(k:∀D σ H,t' D σ H→t D σ H):PS X st t':=fun pins s σ H D I w=>h pins s σ H D I (k D σ H w)
theorem PSs.weak{X:Cx}{st:List Stmt}{t t':TS}(h:PSs X st t)(k:∀D σ H,t' D σ H→t D σ H):PSs X st t':=fun pins s σ H D I w=>h pins s σ H D I (k D σ H w)
section
variable{K:W.Frag}{Xw:Nat→Hp→Prop}{F₀ H₀ F H F' H':Hp}{σ:St}{ρ:aT}
theorem StOk.ext'(s:StOk K F₀ H₀ F H σ ρ)(e:Ext F H F' H'):StOk K F₀ H₀ F' H' σ ρ:=⟨s.ext.trans e,s.st.ext e,s.len,s.own,s.sep⟩
theorem StOk.set(s:StOk K F₀ H₀ F H σ ρ){i:Nat}{d:D}{v:V}(h:Den K F d v):StOk K F₀ H₀ F H (σ.set i (some v)) (ρ.set i (some (.fz d))):=by
 have hl:=s.len
 have get:∀(j:Nat) (sl:Sl),(ρ.set i (some (.fz d)))[j]? =some (some sl)→(j=i∧i<ρ.length∧sl= .fz d)∨(j≠i∧ρ[j]? =some (some sl)):=fun j sl e=>by
  by_cases hj:j=i
  ·subst hj
   have hi:j<ρ.length:=by
    have:=(List.getElem?_eq_some_iff.mp e).1
    simpa using this
   rw[List.getElem?_set_self hi] at e
   cases e
   exact .inl ⟨rfl,hi,rfl⟩
  ·rw[List.getElem?_set_ne (Ne.symm hj)] at e
   exact .inr ⟨hj,e⟩
 refine⟨s.ext,⟨s.st.fh,fun j sl e=>?_⟩,by simp[hl],fun j c a e e'=>?_,fun j k c c' a e1 e2 e3 e4=>?_⟩
 ·rcases get j sl e with⟨rfl,hi,rfl⟩ | ⟨hj,e⟩
  ·exact⟨v,by rw[List.getElem?_set_self (by omega)],h⟩
  ·obtain⟨u,h1,h2⟩:=s.st.den j sl e
   exact⟨u,by rw[List.getElem?_set_ne (Ne.symm hj)];exact h1,h2⟩
 ·rcases get j _ e with⟨_,_,z⟩ | ⟨hj,e⟩
  ·cases z
  ·rw[List.getElem?_set_ne (Ne.symm hj)] at e'
   exact s.own j c a e e'
 ·rcases get j _ e1 with⟨_,_,z⟩ | ⟨hj,e1⟩
  ·cases z
  ·rcases get k _ e2 with⟨_,_,z⟩ | ⟨hk,e2⟩
   ·cases z
   ·rw[List.getElem?_set_ne (Ne.symm hj)] at e3
    rw[List.getElem?_set_ne (Ne.symm hk)] at e4
    exact s.sep j k c c' a e1 e2 e3 e4
theorem StOk.setNew(s:StOk K F₀ H₀ F H σ ρ){i:Nat}{a:Addr}{o:HO}{c₀:C}(n:H a=none)(h:DenC K F c₀ o):
 StOk K F₀ H₀ F (upd H a o) (σ.set i (some (.ref a))) (ρ.set i (some (.ow c₀))):=by
 have hle:=s.len
 have e0:=Ext.free (o:=o) s.st.fh n
 have nF:F a=none:=Same.free s.st.fh n
 have get:∀(j:Nat) (sl:Sl),(ρ.set i (some (.ow c₀)))[j]? =some (some sl)→(j=i∧i<ρ.length∧sl= .ow c₀)∨(j≠i∧ρ[j]? =some (some sl)):=fun j sl e=>by
  by_cases hj:j=i
  ·subst hj
   have hi:j<ρ.length:=by
    have:=(List.getElem?_eq_some_iff.mp e).1
    simpa using this
   rw[List.getElem?_set_self hi] at e
   cases e
   exact .inl ⟨rfl,hi,rfl⟩
  ·rw[List.getElem?_set_ne (Ne.symm hj)] at e
   exact .inr ⟨hj,e⟩
 have old:∀(j:Nat) (c:C) (b:Addr),ρ[j]? =some (some (.ow c))→σ[j]? =some (some (.ref b))→b≠a:=fun j c b e e' z=>by
  obtain⟨u,h1,b',o,h2,h3,_⟩:=s.st.den j _ e
  rw[h1] at e'
  cases e'
  cases h2
  rw[z,n] at h3
  cases h3
 refine⟨s.ext.trans e0,⟨e0.fh,fun j sl e=>?_⟩,by simp[hle],fun j c b e e'=>?_,fun j k c c' b e1 e2 e3 e4=>?_⟩
 ·rcases get j sl e with⟨rfl,hi,rfl⟩ | ⟨hj,e⟩
  ·exact⟨.ref a,by rw[List.getElem?_set_self (by omega)],a,_,rfl,ax,nF,h⟩
  ·obtain⟨u,h1,h2⟩:=s.st.den j sl e
   exact⟨u,by rw[List.getElem?_set_ne (Ne.symm hj)];exact h1,h2.ext e0⟩
 ·rcases get j _ e with⟨rfl,hi,_⟩ | ⟨hj,e⟩
  ·rw[List.getElem?_set_self (by omega)] at e'
   cases e'
   exact Same.free s.ext.hh n
  ·rw[List.getElem?_set_ne (Ne.symm hj)] at e'
   exact s.own j c b e e'
 ·rcases get j _ e1 with⟨rfl,hi,_⟩ | ⟨hj,e1⟩
  ·rw[List.getElem?_set_self (by omega)] at e3
   cases e3
   rcases get k _ e2 with⟨rfl,_,_⟩ | ⟨hk,e2⟩
   ·rfl
   ·rw[List.getElem?_set_ne (Ne.symm hk)] at e4
    exact absurd rfl (old k c' a e2 e4)
  ·rcases get k _ e2 with⟨Ep,hi,_⟩ | ⟨hk,e2⟩
   ·rw[Ep,List.getElem?_set_self (by omega)] at e4
    cases e4
    rw[List.getElem?_set_ne (Ne.symm hj)] at e3
    exact absurd rfl (old j c a (by assumption) e3)
   ·rw[List.getElem?_set_ne (Ne.symm hj)] at e3
    rw[List.getElem?_set_ne (Ne.symm hk)] at e4
    exact s.sep j k c c' b e1 e2 e3 e4
theorem StOk.chg(s:StOk K F₀ H₀ F H σ ρ){i:Nat}{a:Addr}{c c₀:C}{o₀:HO}(hi:ρ[i]? =some (some (.ow c)))(ha:σ[i]? =some (some (.ref a)))(h:DenC K F c₀ o₀):
 StOk K F₀ H₀ F (upd H a o₀) σ (ρ.set i (some (.ow c₀))):=by
 have hle:=s.len
 have h0:=s.own i c a hi ha
 obtain⟨u,q1,a',o,q2,q3,q4,q5⟩:=s.st.den i _ hi
 rw[ha] at q1
 cases q1
 cases q2
 have B2:i<ρ.length:=(List.getElem?_eq_some_iff.mp hi).1
 have get:∀(j:Nat) (sl:Sl),(ρ.set i (some (.ow c₀)))[j]? =some (some sl)→(j=i∧sl= .ow c₀)∨(j≠i∧ρ[j]? =some (some sl)):=fun j sl e=>by
  by_cases hj:j=i
  ·subst hj
   rw[List.getElem?_set_self B2] at e
   cases e
   exact .inl ⟨rfl,rfl⟩
  ·rw[List.getElem?_set_ne (Ne.symm hj)] at e
   exact .inr ⟨hj,e⟩
 have fh:Same F (upd H a o₀):=fun b o e=>by
  rw[aq (fun z=>by rw[z,q4] at e;cases e)];exact s.st.fh b o e
 refine⟨⟨fun b o e=>?_,s.ext.ff,fh,s.ext.new⟩,⟨fh,fun j sl e=>?_⟩,by simp[hle],fun j c' b e e'=>?_,fun j k c1 c2 b e1 e2 e3 e4=>?_⟩
 ·rw[aq (fun z=>by rw[z,h0] at e;cases e)];exact s.ext.hh b o e
 ·rcases get j sl e with⟨rfl,rfl⟩ | ⟨hj,e⟩
  ·exact⟨.ref a,ha,a,_,rfl,ax,q4,h⟩
  ·obtain⟨u,h1,h2⟩:=s.st.den j sl e
   refine⟨u,h1,?_⟩
   cases sl with
   |fz d=>exact h2
   |ow c'=>
    obtain⟨b,o',r1,r2,r3,r4⟩:=h2
    refine⟨b,o',r1,?_,r3,r4⟩
    rw[aq (fun z=>hj (s.sep j i c' c a e hi (by rw[h1,r1,z]) ha))];exact r2
 ·rcases get j _ e with⟨rfl,_⟩ | ⟨hj,e⟩
  ·rw[ha] at e';cases e';exact h0
  ·exact s.own j c' b e e'
 ·have k1:∃c,ρ[j]? =some (some (.ow c)):=by
   rcases get j _ e1 with⟨rfl,_⟩ | ⟨_,e⟩
   ·exact⟨c,hi⟩
   ·exact⟨_,e⟩
  have k2:∃c,ρ[k]? =some (some (.ow c)):=by
   rcases get k _ e2 with⟨rfl,_⟩ | ⟨_,e⟩
   ·exact⟨c,hi⟩
   ·exact⟨_,e⟩
  obtain⟨_,k1⟩:=k1
  obtain⟨_,k2⟩:=k2
  exact s.sep j k _ _ b k1 k2 e3 e4
def frz(i:Nat)(ρ:aT):aT:=match ρ[i]? with
 |some (some (.ow c))=>ρ.set i (some (.fz c.d))
 |_=>ρ
theorem StOk.frz(s:StOk K F₀ H₀ F H σ ρ)(i:Nat)(obj:Addr→Obj):(∃a o,H a=some o∧DenC K F (ρ[i]?.elim (.lst []) fun x=>x.elim (.lst []) fun y=>match y with | .ow c=>c | _=> .lst []) o∧σ[i]? =some (some (.ref a))∧StOk K F₀ H₀ (upd F a (eG (obj a) o)) (upd H a (eG (obj a) o)) σ (frz i ρ))∨frz i ρ=ρ:=by
 unfold L3.frz
 split
 ·rename_i c₀ hi
  have hle:=s.len
  obtain⟨u,ha,a,o,rfl,q3,q4,xq⟩:=s.st.den i _ hi
  refine .inl ⟨a,o,q3,by rw[hi];exact xq,ha,?_⟩
  have h0:=s.own i _ a hi ha
  have B2:i<ρ.length:=(List.getElem?_eq_some_iff.mp hi).1
  have ff:Same F (upd F a (eG (obj a) o)):=fun b o e=>by rw[aq (fun z=>by rw[z,q4] at e;cases e)];exact e
  have fh:Same (upd F a (eG (obj a) o)) (upd H a (eG (obj a) o)):=fun b o e=>by
   by_cases z:b=a
   ·rw[z,ax] at e⊢;exact e
   ·rw[aq z] at e⊢;exact s.st.fh b o e
  have get:∀(j:Nat) (sl:Sl),(ρ.set i (some (.fz c₀.d)))[j]? =some (some sl)→(j=i∧sl= .fz c₀.d)∨(j≠i∧ρ[j]? =some (some sl)):=fun j sl e=>by
   by_cases hj:j=i
   ·subst hj
    rw[List.getElem?_set_self B2] at e
    cases e
    exact .inl ⟨rfl,rfl⟩
   ·rw[List.getElem?_set_ne (Ne.symm hj)] at e
    exact .inr ⟨hj,e⟩
  refine⟨⟨fun b u q=>?_,s.ext.ff.trans ff,fh,fun b hb=>?_⟩,⟨fh,fun j sl e=>?_⟩,by simp[hle],fun j c' b e e'=>?_,fun j k c1 c2 b e1 e2 e3 e4=>?_⟩
  ·rw[aq (fun z=>by rw[z,h0] at q;cases q)];exact s.ext.hh b u q
  ·rcases s.ext.new b hb with q | q
   ·exact .inl (by rw[aq (fun z=>hb (by rw[z];exact h0))];exact q)
   ·exact .inr q
  ·rcases get j sl e with⟨rfl,rfl⟩ | ⟨hj,e⟩
   ·exact⟨.ref a,ha,DenC.den xq ff ax⟩
   ·obtain⟨u,h1,h2⟩:=s.st.den j sl e
    refine⟨u,h1,?_⟩
    cases sl with
    |fz d=>exact Den.mono ff h2
    |ow c'=>
     obtain⟨b,o',r1,r2,r3,r4⟩:=h2
     have nP:b≠a:=fun z=>hj (s.sep j i c' _ a e hi (by rw[h1,r1,z]) ha)
     exact⟨b,o',r1,by rw[aq nP];exact r2,by rw[aq nP];exact r3,DenC.mono ff r4⟩
  ·rcases get j _ e with⟨_,z⟩ | ⟨hj,e⟩
   ·cases z
   ·exact s.own j c' b e e'
  ·rcases get j _ e1 with⟨_,z⟩ | ⟨_,e1⟩
   ·cases z
   ·rcases get k _ e2 with⟨_,z⟩ | ⟨_,e2⟩
    ·cases z
    ·exact s.sep j k _ _ b e1 e2 e3 e4
 ·exact .inr rfl
end
def join(F H:Hp):Hp:=fun a=>match F a with
 |some o=>some o
 |none=>H a
theorem StOk.rebase{K:W.Frag}{F₀ H₀ F H:Hp}{σ:St}{ρ:aT}(s:StOk K F₀ H₀ F H σ ρ):StOk K F (join F H₀) F H σ ρ∧∀F' H',Ext F (join F H₀) F' H'→Ext F₀ H₀ F' H':=by
 have hj:Same (join F H₀) H:=fun b o e=>by
  unfold join at e
  cases q:F b with
  |some u=>rw[q] at e;cases e;exact s.st.fh b _ q
  |none=>rw[q] at e;exact s.ext.hh b o e
 have h0:Same H₀ (join F H₀):=fun b o e=>by
  unfold join
  cases q:F b with
  |some u=>
   have h1:=s.st.fh b u q
   rw[s.ext.hh b o e] at h1
   exact h1.symm
  |none=>exact e
 refine⟨⟨⟨hj,Same.refl _,s.st.fh,fun _ _=> .inl rfl⟩,s.st,s.len,fun i c a e e'=>?_,s.sep⟩,fun F' H' x=>⟨h0.trans x.hh,s.ext.ff.trans x.ff,x.fh,fun a ha=>?_⟩⟩
 ·have h1:=s.own i c a e e'
  obtain⟨v,q1,a',o,q2,q3,q4,_⟩:=s.st.den i _ e
  rw[e'] at q1
  cases q1
  cases q2
  unfold join
  rw[q4]
  exact h1
 ·have:join F H₀ a≠none:=by
   cases q:H₀ a with
   |none=>exact absurd q ha
   |some o=>rw[h0 a o q];exact fun z=>nomatch z
  rcases s.ext.new a ha with p | p
  ·rcases x.new a this with q | ⟨ts,q⟩
   ·exact .inl (q.trans p)
   ·cases z:H₀ a with
    |none=>exact absurd z ha
    |some o=>
     rw[h0 a o z] at q
     exact .inr ⟨ts,q⟩
  ·exact .inr p
theorem StOk.unbase{K:W.Frag}{F₀ H₀ F U F' H':Hp}{σ:St}{ρ:aT}(k:∀F' H',Ext F U F' H'→Ext F₀ H₀ F' H')(s:StOk K F U F' H' σ ρ)(h:Same H₀ U):StOk K F₀ H₀ F' H' σ ρ:=
 ⟨k _ _ s.ext,s.st,s.len,fun i c a e e'=>Same.free h (s.own i c a e e'),s.sep⟩
theorem rZ{K:W.Frag}{F₀ H₀ F H:Hp}{σ:St}{ρ:aT}(s:StOk K F₀ H₀ F H σ ρ):Same H₀ (join F H₀):=fun b o e=>by
 unfold join
 cases q:F b with
 |some u=>
  have h1:=s.st.fh b u q
  rw[s.ext.hh b o e] at h1
  exact h1.symm
 |none=>exact e
theorem Inv.refrz{X:Cx}{pins:List (Addr×Obj)}{σ:St}{H:Hp}{s:Shared}{a:Addr}{o o':HO}(I:Inv X pins σ H s)(e:H a=some o)
 (ho:o'=o∨∃u,o'= .frz ((s.heap.get? a).getD {cls:= .none,data:= .fields #[]}) u∧((∃k,o= .dT k∧u= .dT k)∨∃k,o= .dK k∧u= .dK k)):Inv X pins σ (upd H a o') s:=by
 rcases ho with rfl | ⟨u,rfl,hu⟩
 ·have:upd H a o'=H:=by
   funext b
   by_cases z:b=a
   ·rw[z,ax,e]
   ·rw[aq z]
  rw[this];exact I
 have Ex:o=u:=by rcases hu with⟨k,h1,h2⟩ | ⟨k,h1,h2⟩<;>rw[h1,h2]
 subst Ex
 have nt:∀ts,o≠ .tup ts:=fun ts z=>by rcases hu with⟨k,h1,_⟩ | ⟨k,h1,_⟩<;>rw[h1] at z<;>cases z
 have nf:∀ob v,o≠ .frz ob v:=fun ob v z=>by rcases hu with⟨k,h1,_⟩ | ⟨k,h1,_⟩<;>rw[h1] at z<;>cases z
 have nb:∀p,o≠ .tbl p:=fun p z=>by rcases hu with⟨k,h1,_⟩ | ⟨k,h1,_⟩<;>rw[h1] at z<;>cases z
 have no:∀p,o≠ .own p:=fun p z=>by rcases hu with⟨k,h1,_⟩ | ⟨k,h1,_⟩<;>rw[h1] at z<;>cases z
 have ne:∀b,H b=none→b≠a:=fun b hb z=>by rw[z,e] at hb;cases hb
 have hk:=I.hok a o e
 have lG:=hk.lt
 obtain⟨ob,Af⟩:∃ob,s.heap.get? a=some ob:=by
  rcases hu with⟨k,h1,_⟩ | ⟨k,h1,_⟩
  ·subst h1;obtain⟨_,_,_,_,ob,_,_,q,_⟩:=hk;exact⟨ob,q⟩
  ·subst h1;obtain⟨_,_,_,_,ob,_,_,q,_⟩:=hk;exact⟨ob,q⟩
 rw[Af]
 refine⟨I.ok,I.os,I.bare,⟨I.base.keep,I.base.slot,fun b q h1 h2 h3=>?_,I.base.there,fun b xs q=>?_,fun b q1 v q=>?_,fun b ps q=>?_⟩,I.loc,I.cell,?_,fun x c q=>?_,fun p hp=>?_,fun b v q=>?_,I.len⟩
 ·have:=I.base.free b q h1 h2 h3
  rw[aq (ne b this)];exact this
 ·have:=I.base.tups b xs q
  rw[aq (fun z=>by rw[z,e] at this;exact nt xs (Option.some.inj this))];exact this
 ·have:=I.base.frzs b q1 v q
  rw[aq (fun z=>by rw[z,e] at this;exact nf _ _ (Option.some.inj this))];exact this
 ·obtain⟨m,this⟩:=I.base.tbls b ps q
  exact⟨m,by rw[aq (fun z=>by rw[z,e] at this;exact nb _ (Option.some.inj this))];exact this⟩
 ·rw[aq (ne _ I.free)];exact I.free
 ·rw[aq (ne _ (I.freeC x c q))];exact I.freeC x c q
 ·obtain⟨h1,h2,h3⟩:=I.pin p hp
  exact⟨h1,by rw[aq (ne _ h2)];exact h2,h3⟩
 ·have st:∀{c:Addr}{v:HO},ObjOk X.prog X.w H s.heap c v→ObjOk X.prog X.w (upd H a (.frz ob o)) s.heap c v:=fun {c v} k=>k.stay (fun _ _ _ q=>q)
   (fun c' q=>by rw[aq (fun z=>by rw[z,e] at q;exact no _ (Option.some.inj q))];exact q) fun c' xs q=>by rw[aq (fun z=>by rw[z,e] at q;exact nt _ (Option.some.inj q))];exact q
  by_cases z:b=a
  ·subst z
   rw[show (some ob).getD _=ob from rfl,ax] at q
   cases q
   exact⟨Af,st hk⟩
  ·rw[aq z] at q
   exact st (I.hok b v q)
def aS(a b:DS):DS:=fun ρ=>a ρ>>=fun o=>match o with | .nx ρ'=>b ρ' | .rt d=>M.ret (.rt d)
def c9:DS:=fun ρ=>M.ret (.nx ρ)
def bh(δ:DE):DS:=fun ρ=>δ ρ>>=fun d=>M.ret (.rt d)
def gQ(δ:DE):DS:=fun ρ=>δ ρ>>=fun _=>M.ret (.nx ρ)
def cS(i:Nat)(δ:DE):DS:=fun ρ=>δ ρ>>=fun d=>M.ret (.nx (ρ.set i (some (.fz d))))
def g7(c:DT)(a b:DS):DS:=fun ρ=>c ρ>>=fun x=>if x then a ρ else b ρ
def AO(i:Nat)(a:DS):DS:=fun ρ=>a (frz i ρ)
def ze(i:Nat):DS:=fun ρ=>M.ret (.nx (ρ.set i (some (.ow (.lst [])))))
def sA(ρ:aT)(i:Nat):Option (List D):=match ρ[i]? with
 |some (some (.ow (.lst ds)))=>some ds
 |_=>none
theorem lU{ρ:aT}{i:Nat}{ds:List D}(h:sA ρ i=some ds):ρ[i]? =some (some (.ow (.lst ds))):=by
 unfold sA at h
 split at h
 ·rename_i Fc e
  cases h
  exact e
 ·cases h
def u6(i:Nat)(δ:DE):DS:=fun ρ=>match sA ρ i with
 |some ds=>δ ρ>>=fun d=>if ds.length<lim then M.ret (.nx (ρ.set i (some (.ow (.lst (ds++[d])))))) else M.stuck
 |none=>M.stuck
def u7(i:Nat)(δ:DE):DS:=fun ρ=>match sA ρ i with
 |some ds=>δ ρ>>=fun d=>lstM d>>=fun es=>if ds.length+es.length≤lim then M.ret (.nx (ρ.set i (some (.ow (.lst (ds++es)))))) else M.stuck
 |none=>M.stuck
def forL(put:D→aT→Option aT)(body:DS):List D→DS
 |[],ρ=>M.ret (.nx ρ)
 |d::ds,ρ=>(match put d ρ with | none=>M.stuck | some ρ1=>body ρ1>>=fun o=>match o with | .nx ρ2=>forL put body ds ρ2 | .rt v=>M.ret (.rt v))
def putN(i:Nat):D→aT→Option aT:=fun d ρ=>some (ρ.set i (some (.fz d)))
def iy(put:D→aT→Option aT)(δi:DA)(body:DS):DS:=fun ρ=>δi ρ>>=fun ds=>forL put body ds ρ
section
variable{X:Cx}{Xw:Nat→Hp→Prop}{F₀ H₀:Hp}{st:Stmt}{rest:List Stmt}{τ τ':DS}{e:Expr}{δ:DE}{pos:Pos}
theorem bb:PSDs X Xw [] c9:=fun F₀ H₀=>PSs.weak wL fun D σ H ⟨F,ρ,s,w⟩=>w σ F H s
theorem av(h1:eB X Xw st τ)(h2:PSDs X Xw rest τ'):PSDs X Xw (st::rest) (aS τ τ'):=fun F₀ H₀=>PSs.weak (uR (h1 F₀ H₀) (h2 F₀ H₀)) fun D σ H ⟨F,ρ,s,w⟩=>by
 refine⟨F,ρ,s,?_⟩
 unfold aS at w
 match τ ρ,w with
 |none,w=>exact w
 |some (.ok (.nx ρ')),w=>exact fun σ' F' H' s'=>⟨F',ρ',s',w⟩
 |some (.ok (.rt d)),w=>exact w
 |some (.ex n),w=>exact w
theorem ao(h1:eB X Xw st τ):PSDs X Xw [st] τ:=fun F₀ H₀=>wM (h1 F₀ H₀)
theorem mZ{i:Nat}(h:eB X Xw st τ):eB X Xw st (AO i τ):=fun F₀ H₀ pins sh σ H D I ⟨F,ρ,s,w⟩=>by
 rcases s.frz i (fun a=>(sh.heap.get? a).getD {cls:= .none,data:= .fields #[]}) with⟨a,o,ha,hc,hσ,s'⟩ | e
 ·refine h F₀ H₀ pins sh σ _ D (L3.Inv.refrz I ha ?_) ⟨_,_,s',w⟩
  generalize (ρ[i]?.elim (C.lst []) fun x=>x.elim (.lst []) fun y=>match y with | .ow c=>c | _=> .lst [])=c at hc
  cases c with
  |lst ds=>obtain⟨vs,rfl,_⟩:=hc;exact .inl rfl
  |dct ks ds=>obtain⟨vs,rfl,_⟩:=hc;exact .inr ⟨_,rfl, .inl ⟨_,rfl,rfl⟩⟩
  |dci ks ds=>obtain⟨vs,rfl,_⟩:=hc;exact .inr ⟨_,rfl, .inr ⟨_,rfl,rfl⟩⟩
 ·exact h F₀ H₀ pins sh σ H D I ⟨F,ρ,s,by unfold AO at w;rw[e] at w;exact w⟩
theorem aw(h:PD X Xw e δ):eB X Xw (.Return (some e) pos) (bh δ):=fun F₀ H₀=>PS.weak (y8 h) fun D σ H ⟨F,ρ,s,w⟩=>by
 refine⟨F,ρ,s.st,?_⟩
 unfold bh at w
 match δ ρ,w with
 |none,w=>exact w
 |some (.ok d),w=>exact fun v H' F' e' q=>w v F' H' (s.ext.trans e') q
 |some (.ex n),w=>exact fun F' H' e'=>w F' H' (s.ext.trans e')
theorem cP(h:PD X Xw e δ)(hs:swapsWith e none pos.line X.env=pure false:=by rfl):eB X Xw (.Expr e pos) (gQ δ):=fun F₀ H₀=>PS.weak (mY h hs) fun D σ H ⟨F,ρ,s,w⟩=>by
 refine⟨F,ρ,s.st,?_⟩
 unfold gQ at w
 match δ ρ,w with
 |none,w=>exact w
 |some (.ok d),w=>exact fun v H' F' e' q=>w σ F' H' (s.ext' e')
 |some (.ex n),w=>exact fun F' H' e'=>w F' H' (s.ext.trans e')
theorem bw{i:Nat}{x:Str}{pos':Pos}(hN:X.N.Nodup)(hi:X.N[i]? =some x)(hx:Loc X.env.scope x)(he:PD X Xw e δ)(hf:X.fn x=true∨X.env.scope.names.lookup x=some .local:=by first | exact .inl rfl | exact .inr rfl)
 (hs:swapsWithSole [.Name x pos'] e pos.line X.env=pure false:=by rfl):
 eB X Xw (.Assign [.Name x pos'] e pos) (cS i δ):=fun F₀ H₀=>PS.weak (qt he (b9 hN hi hx hf) hs) fun D σ H ⟨F,ρ,s,w⟩=>by
 refine⟨F,ρ,s.st,?_⟩
 unfold cS at w
 match δ ρ,w with
 |none,w=>exact w
 |some (.ok d),w=>exact fun v H' F' e' q=>w _ F' H' ((s.ext' e').set q)
 |some (.ex n),w=>exact fun F' H' e'=>w F' H' (s.ext.trans e')
theorem o7{elt iter tg:Expr}{ifs:List Expr}{scope:Scope}{aP:Pos}{tn:List Str}{n:Nat}{δi:DA}{δt:DT}{δe:DE}{i:Nat}{x:Str}{pos':Pos}(hN:X.N.Nodup)(B1:X.N[i]? =some x)(hx:Loc X.env.scope x)
 (sc:CompSc X scope tn)(hn:tn.length=max n 1)(hc:X.calm=true)(hi:xa X Xw tg iter δi)
 (hg:∀pins cl C fp s₂ H σ,rD (fI X scope tn pins cl C fp s₂ H) tg n σ)
 (ht:∀pins cl C fp s₂ H,g8 (fI X scope tn pins cl C fp s₂ H) ifs δt)
 (he:∀pins cl C fp s₂ H,PD (fI X scope tn pins cl C fp s₂ H) (fun _ _=>False) elt δe)
 (hf:X.fn x=true∨X.env.scope.names.lookup x=some .local:=by first | exact .inl rfl | exact .inr rfl)
 (EF:swapsWith (.ListComp elt [⟨tg,iter,ifs,0⟩] scope aP) (some (.Name x pos')) pos.line X.env=pure true:=by rfl)
 (hs:∀x,foldedSetIterable iter X.env x=pure x:=by intro _;rfl):
 eB X Xw (.Assign [.Name x pos'] (.ListComp elt [⟨tg,iter,ifs,0⟩] scope aP) pos) (cS i (aW n δi δt δe)):=fun F₀ H₀ pins s σ H D I ⟨F,ρ,S,w⟩=>by
 obtain⟨cl,tQ,s_,zt⟩:=jz (scope:=scope) (env:=X.env) fun y hy hf=>I.ok.has y.1 (sc.frees y hy hf)
 have w':WP X.K Xw F H (aW n δi δt δe ρ) (fun v H'=>D.nx (σ.set i (some v)) H'):=by
  have w:WPS X.K Xw F₀ H₀ (aW n δi δt δe ρ>>=fun d=>M.ret (.nx (ρ.set i (some (.fz d))))) D:=w
  match aW n δi δt δe ρ,w with
  |none,w=>exact w
  |some (.ok d),w=>exact fun v H' F' e' q=>w _ F' H' ((S.ext' e').set q)
  |some (.ex n),w=>exact fun F' H' e'=>w F' H' (S.ext.trans e')
 rw[exec_Assign_Name_used _ _ _ _ EF]
 refine wpAny_bind (wpAny_standAt (wpAny_bind ?_))
 show wpAny _ X.A (do let _←comprehension (.ListComp elt [⟨tg,iter,ifs,0⟩] scope aP) scope X.env _ (newList []) false (eval iter X.env) (some (assign (.Name x pos') X.env))) _ _ s
 refine wpAny_bind (wpAny_mono (wpAny_comprehension_free (use:=some (assign (.Name x pos') X.env)) (Q:=fun _ s'=>SP X pins D .next s') rfl hs tQ sc.kind sc.names
  (n3 (RR:=fun acc C=>compPost (model X.prog X.w) X.A X.xe (some (assign (.Name x pos') X.env)) (fun _ s'=>SP X pins D .next s') acc C) sc hn hc hi hg ht he I S.st w' s_ zt fun s1 C D' H' I1 q b=>?_)) (fun _ s' hq=>wpAny_pure (wpAny_pure hq)) fun _ _ e=>e)
 show wpAny _ X.A (assign (.Name x pos') X.env (.ref D')) _ _ _
 refine wpAny_assign_Name (l_ I1 hN B1 hx (v:= .ref D') rfl (fun s2 I2 ⟨a,sb,ha⟩=>?_) hf)
 have D6:C≠a:=by
  rcases ha with z | z
  ·rw[z];exact b.nl
  ·exact Ne.symm (b.nc x a z)
 obtain⟨m,hm⟩:=b.ns
 have B9:s2.heap.Ns C m:=hm.sameBut sb D6
 refine⟨m,B9,fun h' Ag=>⟨_,H',Inv.block I2 ⟨⟨m,B9⟩,b.free,b.nl,b.nw,b.nc,b.np⟩ Ag,q⟩⟩
theorem bG{c:Expr}{a b:List Stmt}{tc:DT}(hc:nS X Xw c tc)(ha:PSDs X Xw a τ)(hb:PSDs X Xw b τ'):eB X Xw (.If c a b pos) (g7 tc τ τ'):=fun F₀ H₀=>PS.weak (Az hc (ha F₀ H₀) (hb F₀ H₀)) fun D σ H ⟨F,ρ,s,w⟩=>by
 refine⟨F,ρ,s.st,?_⟩
 unfold g7 at w
 match tc ρ,w with
 |none,w=>exact w
 |some (.ok true),w=>exact fun H' F' e'=>⟨F',ρ,s.ext' e',w⟩
 |some (.ok false),w=>exact fun H' F' e'=>⟨F',ρ,s.ext' e',w⟩
 |some (.ex n),w=>exact fun F' H' e'=>w F' H' (s.ext.trans e')
theorem rl{i:Nat}{x:Str}{pos' y6:Pos}(hN:X.N.Nodup)(hi:X.N[i]? =some x)(hx:Loc X.env.scope x)(hf:X.fn x=true∨X.env.scope.names.lookup x=some .local:=by first | exact .inl rfl | exact .inr rfl):
 eB X Xw (.Assign [.Name x pos'] (.List [] y6) pos) (ze i):=fun F₀ H₀=>PS.weak (qt (uN mT) (b9 hN hi hx hf) rfl) fun D σ H ⟨F,ρ,s,w⟩=>by
 refine⟨Nat.zero_le _,fun p hp=>?_⟩
 exact w _ F _ (s.setNew (c₀:= .lst []) hp ⟨[],rfl,rfl,Nat.zero_le _⟩)
def xb(K:W.Frag)(g:TG)(put:D→aT→Option aT):Prop:=∀(F₀ H₀ F H:Hp) (σ:St) (ρ ρ':aT) (d:D) (v:V) (Q:St→Hp→Prop),StOk K F₀ H₀ F H σ ρ→Den K F d v→put d ρ=some ρ'→
 (∀σ',StOk K F₀ H₀ F H σ' ρ'→Q σ' H)→g v σ H Q
theorem c8{K:W.Frag}{i:Nat}:xb K (tO i) (putN i):=fun F₀ H₀ F H σ ρ ρ' d v Q s q e k=>by
 cases e
 exact k _ (s.set q)
def E0(K:W.Frag)(Xw:Nat→Hp→Prop)(τ:DS):TS:=fun D σ H=>∃F₀ H₀,tS K Xw F₀ H₀ τ D σ H
theorem PSDs.ex{body:List Stmt}(h:PSDs X Xw body τ):PSs X body (E0 X.K Xw τ):=fun pins s σ H D I ⟨F₀,H₀,w⟩=>h F₀ H₀ pins s σ H D I w
theorem ef{tg iter:Expr}{body:List Stmt}{δi:DA}{g:TG}{put:D→aT→Option aT}(hp:PassesOwn (model X.prog X.w) X.A X.env X.xe)(hc:X.calm=true)(hi:xa X Xw tg iter δi)(hg:PG X tg g)(Cd:xb X.K g put)(hb:PSDs X Xw body τ)
 (hs:∀x,foldedSetIterable iter X.env x=pure x:=by intro _;rfl):eB X Xw (.For tg iter body [] pos) (iy put δi τ):=fun F₀ H₀=>PS.weak (y7 hp hc hi hg hb.ex hs) fun D σ H ⟨F,ρ,s,w⟩=>by
 refine⟨F,ρ,s.st,?_⟩
 unfold iy at w
 match δi ρ,w with
 |none,w=>exact w
 |some (.ex n),w=>exact fun F' H' e'=>w F' H' (s.ext.trans e')
 |some (.ok ds),w=>
  have w:WPS X.K Xw F₀ H₀ (forL put τ ds ρ) D:=w
  intro J H1 F1 e1 Dy
  obtain⟨s1,back⟩:=(s.ext' e1).rebase
  have hU:=rZ (s.ext' e1)
  generalize join F1 H₀=U at s1 back hU
  refine⟨fun i m σ H=>m=ds.length - i∧i≤ds.length∧∃F ρ,StOk X.K F1 U F H σ ρ∧WPS X.K Xw F₀ H₀ (forL put τ (ds.drop i) ρ) D,⟨ds.length,by simp,Nat.zero_le _,F1,ρ,s1,by simpa using w⟩,?_⟩
  rintro i m σ2 H2 ⟨rfl,B3,F2,ρ2,s2,w2⟩
  by_cases lG:i<ds.length
  ·obtain⟨d,hd⟩:∃d,ds[i]? =some d:=⟨_,List.getElem?_eq_getElem lG⟩
   obtain⟨B0,yo⟩:=(Dy F2 H2 i s2.ext.ff s2.st.fh).1 d hd
   have ed:ds.drop i=d::ds.drop (i+1):=by
    obtain⟨hi,e⟩:=List.getElem?_eq_some_iff.mp hd
    rw[List.drop_eq_getElem_cons hi,e]
   rw[ed] at w2
   unfold forL at w2
   refine .inr ⟨B0,fun σ' H'=>∃F' ρ',StOk X.K F1 U F' H' σ' ρ'∧WPS X.K Xw F₀ H₀ (forL put τ (ds.drop (i+1)) ρ') D,fun σ' H' ⟨F',ρ',h2,h3⟩=>⟨ds.length - (i+1),by omega,rfl,lG,F',ρ',h2,h3⟩,fun x H3 y3=>?_⟩
   obtain⟨F3,sT,q3⟩:=yo x H3 y3
   match EA:put d ρ2,w2 with
   |none,w2=>exact w2.elim
   |some ρ3,w2=>
    refine Cd F1 U F3 H3 σ2 ρ2 ρ3 d x _ (s2.ext' sT) q3 EA fun σ3 s3=>⟨F1,U,F3,ρ3,s3,?_⟩
    have w2:WPS X.K Xw F₀ H₀ (τ ρ3>>=fun o=>match o with | .nx ρ2=>forL put τ (ds.drop (i+1)) ρ2 | .rt v=>M.ret (.rt v)) D:=w2
    match τ ρ3,w2 with
    |none,w2=>exact w2
    |some (.ok (.nx ρ')),w2=>exact fun σ' F' H' s'=>⟨F',ρ',s',w2⟩
    |some (.ok (.rt d)),w2=>exact fun v F' H' e q=>w2 v F' H' (back _ _ e) q
    |some (.ex n),w2=>exact fun F' H' e=>w2 F' H' (back _ _ e)
  ·have hi:i=ds.length:=by omega
   subst hi
   rw[List.drop_length] at w2
   exact .inl ⟨(Dy F2 H2 ds.length s2.ext.ff s2.st.fh).2 (Nat.le_refl _),w2 σ2 F2 H2 (s2.unbase back hU)⟩
end
def gI(f:Int→Int→D):D→D→M D
 | .int i, .int j=>M.ret (f i j)
 |_,_=>M.stuck
def zZ(c:Int→Int→Bool)(f:Int→Int→D):D→D→M D
 | .int i, .int j=>if c i j then M.ret (f i j) else M.stuck
 |_,_=>M.stuck
theorem uz{K:W.Frag}{gv:Int→Int→V}{gd:Int→Int→D}(h:∀F i j,Den K F (gd i j) (gv i j)):pL K (sG gv) (gI gd):=fun Xw F H x y dx dy Q s hx hy w=>by
 unfold gI at w
 split at w
 ·rename_i i j
  exact⟨i,j,hx,hy,WP.now w s (h F i j)⟩
 ·exact w.elim
theorem ql{K:W.Frag}{gv:Int→Int→V}{gd:Int→Int→D}{c:Int→Int→Bool}{C:Int→Int→Prop}(h:∀F i j,Den K F (gd i j) (gv i j))(hc:∀i j,c i j=true→C i j):pL K (rI C gv) (zZ c gd):=fun Xw F H x y dx dy Q s hx hy w=>by
 unfold zZ at w
 split at w
 ·rename_i i j
  split at w
  ·rename_i Ba
   exact⟨i,j,hx,hy,hc i j Ba,WP.now w s (h F i j)⟩
  ·exact w.elim
 ·exact w.elim
def cR:=gI fun i j=> .int (i+j)
def vG:=gI fun i j=> .int (i - j)
def eK:=zZ (fun i j=>decide ((-(2 ^ 64)<i∧i<2 ^ 64)∨(-(2 ^ 64)<j∧j<2 ^ 64))) fun i j=> .int (i*j)
def kJ:=zZ (fun _ j=>decide (0<j∧j<1073741824)) fun i j=> .int (i / j)
def gn:=zZ (fun _ j=>decide (0<j)) fun i j=> .int (i % j)
section
variable{X:Cx}{Xw:Nat→Hp→Prop}{a b:Expr}{δa δb:DE}{pos:Pos}
theorem bR(ha:PD X Xw a δa)(hb:PD X Xw b δb):PD X Xw (.BinOp a .Add b pos) (d2 cR δa δb):=iX yG (uz fun _ _ _=>rfl) ha hb
theorem uG(ha:PD X Xw a δa)(hb:PD X Xw b δb):PD X Xw (.BinOp a .Sub b pos) (d2 vG δa δb):=iX yK (uz fun _ _ _=>rfl) ha hb
theorem fZ(ha:PD X Xw a δa)(hb:PD X Xw b δb):PD X Xw (.BinOp a .Mult b pos) (d2 eK δa δb):=iX yI (ql (fun _ _ _=>rfl) fun i j h=>by unfold CMul;exact of_decide_eq_true h) ha hb
theorem mU(ha:PD X Xw a δa)(hb:PD X Xw b δb):PD X Xw (.BinOp a .FloorDiv b pos) (d2 kJ δa δb):=iX v8 (ql (fun _ _ _=>rfl) fun i j h=>by unfold zC;exact of_decide_eq_true h) ha hb
theorem iq(ha:PD X Xw a δa)(hb:PD X Xw b δb):PD X Xw (.BinOp a .Mod b pos) (d2 gn δa δb):=iX yH (ql (fun _ _ _=>rfl) fun i j h=>of_decide_eq_true h) ha hb
def fU:D→D→M D
 | .lst ds, .int i=>match atI ds i with | some d=>M.ret d | none=>M.stuck
 |_,_=>M.stuck
def bB:D→D→M D
 | .tup ds, .int i=>match atI ds i with | some d=>M.ret d | none=>M.stuck
 |_,_=>M.stuck
def tM:D→D→M D
 | .scr ns, .int i=>match atI ns i with | some n=>M.ret (.int n) | none=>M.stuck
 |_,_=>M.stuck
def fC:D→D→M D
 | .str x, .int i=>match atI x.cps.toList i with | some c=>M.ret (.str ⟨#[c]⟩) | none=>M.stuck
 |_,_=>M.stuck
theorem DenL.atI{K:W.Frag}{F:Hp}{ds:List D}{vs:List V}(h:DenL K F ds vs){i:Int}{d:D}(e:L2.atI ds i=some d):∃v,L2.atI vs i=some v∧Den K F d v:=by
 unfold L2.atI at e⊢
 rw[←h.len]
 cases q:t5 ds.length i with
 |none=>rw[q] at e;cases e
 |some j=>
  rw[q] at e
  exact h.get e
theorem wb{K:W.Frag}:pL K (zc K) fU:=fun Xw F H x y dx dy Q s hx hy w=>by
 unfold fU at w
 split at w
 ·rename_i ds i
  obtain⟨a,vs,h1,h2,h3,h4⟩:=hx
  split at w
  ·rename_i d e
   obtain⟨v,e1,q⟩:=h3.atI e
   exact⟨a,vs,i,v,h1,hy,SqL.of (s _ _ h2),e1,WP.now w s q⟩
  ·exact w.elim
 ·exact w.elim
theorem we{K:W.Frag}:pL K (AJ K) bB:=fun Xw F H x y dx dy Q s hx hy w=>by
 unfold bB at w
 split at w
 ·rename_i ds i
  obtain⟨a,vs,h1,h2,h3,h4⟩:=hx
  split at w
  ·rename_i d e
   obtain⟨v,e1,q⟩:=h3.atI e
   exact⟨a,vs,i,v,h1,hy,SqT.of (s _ _ h2),e1,WP.now w s q⟩
  ·exact w.elim
 ·exact w.elim
theorem wc{K:W.Frag}:pL K (zc K) tM:=fun Xw F H x y dx dy Q s hx hy w=>by
 unfold tM at w
 split at w
 ·rename_i ns i
  obtain⟨a,h1,h2,h3⟩:=hx
  split at w
  ·rename_i n e
   refine⟨a,_,i, .int n,h1,hy,Same.seq s h2,?_,WP.now w s rfl⟩
   unfold L2.atI at e⊢
   rw[List.length_map]
   cases q:t5 ns.length i with
   |none=>rw[q] at e;cases e
   |some j=>
    rw[q] at e
    have e:ns[j]? =some n:=e
    show (ns.map V.int)[j]? =some (.int n)
    rw[List.getElem?_map,e];rfl
  ·exact w.elim
 ·exact w.elim
theorem wd{K:W.Frag}:pL K AI fC:=fun Xw F H x y dx dy Q s hx hy w=>by
 unfold fC at w
 split at w
 ·rename_i z i
  obtain⟨h1,h2⟩:=hx
  split at w
  ·rename_i c e
   exact⟨z,i,c,h1,hy,by have:=cj;omega,e,WP.now w s ⟨rfl,by show 1≤lim;decide⟩⟩
  ·exact w.elim
 ·exact w.elim
theorem qp(ha:PD X Xw a δa)(hb:PD X Xw b δb)(hs:fk b:=by intro _ _;rfl):PD X Xw (.Subscript a b pos) (d2 fU δa δb):=rh qW wb ha hb hs
theorem yO(ha:PD X Xw a δa)(hb:PD X Xw b δb)(hs:fk b:=by intro _ _;rfl):PD X Xw (.Subscript a b pos) (d2 tM δa δb):=rh qW wc ha hb hs
theorem bW(ha:PD X Xw a δa)(hb:PD X Xw b δb)(hs:fk b:=by intro _ _;rfl):PD X Xw (.Subscript a b pos) (d2 bB δa δb):=rh yx we ha hb hs
theorem qq(ha:PD X Xw a δa)(hb:PD X Xw b δb)(hs:fk b:=by intro _ _;rfl):PD X Xw (.Subscript a b pos) (d2 fC δa δb):=rh yw wd ha hb hs
def oo:D→D→M D
 | .str x, .str y=>if x.length+y.length≤lim then M.ret (.str (x++y)) else M.stuck
 |_,_=>M.stuck
theorem da(x y:Str):(x++y).length=x.length+y.length:=by
 show (x.cps++y.cps).size=_
 simp[Str.length]
theorem wk(ha:PD X Xw a δa)(hb:PD X Xw b δb):PD X Xw (.BinOp a .Add b pos) (d2 oo δa δb):=iX qk (fun Xw F H x y dx dy Q s hx hy w=>by
 unfold oo at w
 split at w
 ·rename_i i j
  split at w
  ·rename_i hl
   exact⟨i,j,hx.1,hy.1,by have:=cj;omega,WP.now w s ⟨rfl,by rw[da];exact hl⟩⟩
  ·exact w.elim
 ·exact w.elim) ha hb
end
end L3
namespace L3
open PySem PySem.Spec L2 SeqAt
open PyProof.Rows hiding St
def my(f:D→D→Option Bool):List D→List D→Option Bool
 |[],[]=>some true
 |x::xs,y::ys=>match f x y,my f xs ys with
  |some b,some r=>some (b&&r)
  |_,_=>none
 |[],_::_=>some false
 |_::_,[]=>some false
def pV:D→D→Option Bool
 | .non, .non=>some true
 | .bl a, .bl b=>some (a==b)
 | .bl a, .int j=>some ((if a then 1 else 0)==j)
 | .int i, .bl b=>some (i==(if b then 1 else 0))
 | .int i, .int j=>some (i==j)
 | .str x, .str y=>some (x==y)
 | .non, .bl _=>some false
 | .non, .int _=>some false
 | .non, .str _=>some false
 | .non, .lst _=>some false
 | .non, .tup _=>some false
 | .bl _, .non=>some false
 | .bl _, .str _=>some false
 | .bl _, .lst _=>some false
 | .bl _, .tup _=>some false
 | .int _, .non=>some false
 | .int _, .str _=>some false
 | .int _, .lst _=>some false
 | .int _, .tup _=>some false
 | .str _, .non=>some false
 | .str _, .bl _=>some false
 | .str _, .int _=>some false
 | .str _, .lst _=>some false
 | .str _, .tup _=>some false
 | .lst _, .non=>some false
 | .lst _, .bl _=>some false
 | .lst _, .int _=>some false
 | .lst _, .str _=>some false
 | .lst _, .tup _=>some false
 | .tup _, .non=>some false
 | .tup _, .bl _=>some false
 | .tup _, .int _=>some false
 | .tup _, .str _=>some false
 | .tup _, .lst _=>some false
 |_,_=>none
def jF:Nat→D→D→Option Bool
 |n+1, .tup xs, .tup ys=>my (jF n) xs ys
 |n+1, .lst xs, .lst ys=>my (jF n) xs ys
 |n+1, .scr xs, .lst ys=>my (jF n) (xs.map D.int) ys
 |_,x,y=>pV x y
structure EqAll (A:Around) (s:Shared) (u v:Value) (b:Bool):Prop where
 rc:RcAt A s u v b
 ne:RcNeAt A s u v (!b)
 eq:EqAt A s u v b
section
variable{X:Cx}{pins:List (Addr×Obj)}{σ:St}{F H:Hp}{s:Shared}{A:Around}
theorem cT(I:Inv X pins σ H s)(hs:Same F H){ds:List D}{v:V}{u:Value}(h:Den X.K F (.tup ds) v)(r:RelV v u):∃a vs aH,u= .ref a∧v= .ref a∧F a=some (.tup vs)∧DenL X.K F ds vs∧Vals vs aH∧s.heap.IsTuple a aH.toArray:=by
 obtain⟨a,vs,rfl,h2,h3,h4⟩:=h
 obtain⟨aH,r1,p1,_⟩:=I.tuple (SqT.of (hs _ _ h2))
 exact⟨a,vs,aH,r,rfl,h2,h3,r1,p1⟩
theorem cK(I:Inv X pins σ H s)(hs:Same F H){ds:List D}{v:V}{u:Value}(h:Den X.K F (.lst ds) v)(r:RelV v u):∃a vs aH,u= .ref a∧v= .ref a∧F a=some (.lst vs)∧DenL X.K F ds vs∧Vals vs aH∧s.heap.IsList a aH.toArray:=by
 obtain⟨a,vs,rfl,h2,h3,h4⟩:=h
 obtain⟨aH,r1,p1,_⟩:=I.list (SqL.of (hs _ _ h2))
 exact⟨a,vs,aH,r,rfl,h2,h3,r1,p1.isList⟩
theorem zf(I:Inv X pins σ H s)(hs:Same F H){ns:List Int}{v:V}{u:Value}(h:Den X.K F (.scr ns) v)(r:RelV v u):∃a aH,u= .ref a∧v= .ref a∧SqL X.K F a (ns.map V.int)∧Vals (ns.map V.int) aH∧s.heap.IsList a aH.toArray:=by
 obtain⟨a,rfl,h2,h3⟩:=h
 obtain⟨aH,r1,p1,_⟩:=I.list (Same.seq hs h2)
 exact⟨a,aH,r,rfl,h2,r1,p1.isList⟩
theorem oe(I:Inv X pins σ H s)(hs:Same F H)(hu:A.units<cLine){x y:D}{v w:V}{u t:Value}{b:Bool}(hx:Den X.K F x v)(hy:Den X.K F y w)(rx:RelV v u)(ry:RelV w t)(e:pV x y=some b):EqAll A s u t b:=by
 cases x with
 |non=>
  cases y with
  |non=>
   cases e
   cases (show _=_ from hx)
   cases rx
   cases (show _=_ from hy)
   cases ry
   exact⟨RcAt.none_none,RcNeAt.none_none,EqAt.same _⟩
  |bl d=>
   cases e
   cases (show _=_ from hx)
   cases rx
   cases (show _=_ from hy)
   cases ry
   exact⟨RcAt.none_bool _,RcNeAt.none_bool _,EqAt.none_bool _⟩
  |int d=>
   cases e
   cases (show _=_ from hx)
   cases rx
   cases (show _=_ from hy)
   obtain⟨t2,rfl⟩:=ry
   exact⟨RcAt.none_int _ _,RcNeAt.none_int _ _,EqAt.none_int _ _⟩
  |str d=>
   cases e
   cases (show _=_ from hx)
   cases rx
   cases (show _=_ from hy.1)
   obtain⟨t2,rfl⟩:=ry
   exact⟨RcAt.none_str _ _,RcNeAt.none_str _ _,EqAt.none_str _ _⟩
  |raw d=>cases e
  |dct _ _=>cases e
  |dci _ _=>cases e
  |exc d=>cases e
  |scr d=>cases e
  |tup d=>
   cases e
   cases (show _=_ from hx)
   cases rx
   obtain⟨a2,_,_,rfl,_,_,_,_,p2⟩:=cT I hs hy ry
   exact⟨RcAt.none_tuple p2 hu,RcNeAt.none_tuple p2 hu,EqAt.none_tuple p2 hu⟩
  |lst d=>
   cases e
   cases (show _=_ from hx)
   cases rx
   obtain⟨a2,_,_,rfl,_,_,_,_,p2⟩:=cK I hs hy ry
   exact⟨RcAt.none_list p2 hu,RcNeAt.none_list p2 hu,EqAt.none_list p2 hu⟩
 |bl c=>
  cases y with
  |non=>
   cases e
   cases (show _=_ from hx)
   cases rx
   cases (show _=_ from hy)
   cases ry
   exact⟨RcAt.bool_none _,RcNeAt.bool_none _,EqAt.bool_none _⟩
  |bl d=>
   cases e
   cases (show _=_ from hx)
   cases rx
   cases (show _=_ from hy)
   cases ry
   exact⟨RcAt.bool_bool _ _,RcNeAt.bool_bool _ _,EqAt.bool_bool _ _⟩
  |int d=>
   cases e
   cases (show _=_ from hx)
   cases rx
   cases (show _=_ from hy)
   obtain⟨t2,rfl⟩:=ry
   exact⟨RcAt.bool_int _ _ _,RcNeAt.bool_int _ _ _,EqAt.bool_int _ _ _⟩
  |str d=>
   cases e
   cases (show _=_ from hx)
   cases rx
   cases (show _=_ from hy.1)
   obtain⟨t2,rfl⟩:=ry
   exact⟨RcAt.bool_str _ _ _,RcNeAt.bool_str _ _ _,EqAt.bool_str _ _ _⟩
  |raw d=>cases e
  |dct _ _=>cases e
  |dci _ _=>cases e
  |exc d=>cases e
  |scr d=>cases e
  |tup d=>
   cases e
   cases (show _=_ from hx)
   cases rx
   obtain⟨a2,_,_,rfl,_,_,_,_,p2⟩:=cT I hs hy ry
   exact⟨RcAt.bool_tuple _ p2 hu,RcNeAt.bool_tuple _ p2 hu,EqAt.bool_tuple _ p2 hu⟩
  |lst d=>
   cases e
   cases (show _=_ from hx)
   cases rx
   obtain⟨a2,_,_,rfl,_,_,_,_,p2⟩:=cK I hs hy ry
   exact⟨RcAt.bool_list _ p2 hu,RcNeAt.bool_list _ p2 hu,EqAt.bool_list _ p2 hu⟩
 |int c=>
  cases y with
  |non=>
   cases e
   cases (show _=_ from hx)
   obtain⟨t1,rfl⟩:=rx
   cases (show _=_ from hy)
   cases ry
   exact⟨RcAt.int_none _ _,RcNeAt.int_none _ _,EqAt.int_none _ _⟩
  |bl d=>
   cases e
   cases (show _=_ from hx)
   obtain⟨t1,rfl⟩:=rx
   cases (show _=_ from hy)
   cases ry
   exact⟨RcAt.int_bool _ _ _,RcNeAt.int_bool _ _ _,EqAt.int_bool _ _ _⟩
  |int d=>
   cases e
   cases (show _=_ from hx)
   obtain⟨t1,rfl⟩:=rx
   cases (show _=_ from hy)
   obtain⟨t2,rfl⟩:=ry
   exact⟨RcAt.int_int _ _ _ _,RcNeAt.int_int _ _ _ _,EqAt.int_int _ _ _ _⟩
  |str d=>
   cases e
   cases (show _=_ from hx)
   obtain⟨t1,rfl⟩:=rx
   cases (show _=_ from hy.1)
   obtain⟨t2,rfl⟩:=ry
   exact⟨RcAt.int_str _ _ _ _,RcNeAt.int_str _ _ _ _,EqAt.int_str _ _ _ _⟩
  |raw d=>cases e
  |dct _ _=>cases e
  |dci _ _=>cases e
  |exc d=>cases e
  |scr d=>cases e
  |tup d=>
   cases e
   cases (show _=_ from hx)
   obtain⟨t1,rfl⟩:=rx
   obtain⟨a2,_,_,rfl,_,_,_,_,p2⟩:=cT I hs hy ry
   exact⟨RcAt.int_tuple _ _ p2 hu,RcNeAt.int_tuple _ _ p2 hu,EqAt.int_tuple _ _ p2 hu⟩
  |lst d=>
   cases e
   cases (show _=_ from hx)
   obtain⟨t1,rfl⟩:=rx
   obtain⟨a2,_,_,rfl,_,_,_,_,p2⟩:=cK I hs hy ry
   exact⟨RcAt.int_list _ _ p2 hu,RcNeAt.int_list _ _ p2 hu,EqAt.int_list _ _ p2 hu⟩
 |str c=>
  cases y with
  |non=>
   cases e
   cases (show _=_ from hx.1)
   obtain⟨t1,rfl⟩:=rx
   cases (show _=_ from hy)
   cases ry
   exact⟨RcAt.str_none _ _,RcNeAt.str_none _ _,EqAt.str_none _ _⟩
  |bl d=>
   cases e
   cases (show _=_ from hx.1)
   obtain⟨t1,rfl⟩:=rx
   cases (show _=_ from hy)
   cases ry
   exact⟨RcAt.str_bool _ _ _,RcNeAt.str_bool _ _ _,EqAt.str_bool _ _ _⟩
  |int d=>
   cases e
   cases (show _=_ from hx.1)
   obtain⟨t1,rfl⟩:=rx
   cases (show _=_ from hy)
   obtain⟨t2,rfl⟩:=ry
   exact⟨RcAt.str_int _ _ _ _,RcNeAt.str_int _ _ _ _,EqAt.str_int _ _ _ _⟩
  |str d=>
   cases e
   cases (show _=_ from hx.1)
   obtain⟨t1,rfl⟩:=rx
   cases (show _=_ from hy.1)
   obtain⟨t2,rfl⟩:=ry
   exact⟨RcAt.str_str _ _ _ _,RcNeAt.str_str _ _ _ _,EqAt.str_str _ _ _ _⟩
  |raw d=>cases e
  |dct _ _=>cases e
  |dci _ _=>cases e
  |exc d=>cases e
  |scr d=>cases e
  |tup d=>
   cases e
   cases (show _=_ from hx.1)
   obtain⟨t1,rfl⟩:=rx
   obtain⟨a2,_,_,rfl,_,_,_,_,p2⟩:=cT I hs hy ry
   exact⟨RcAt.str_tuple _ _ p2 hu,RcNeAt.str_tuple _ _ p2 hu,EqAt.str_tuple _ _ p2 hu⟩
  |lst d=>
   cases e
   cases (show _=_ from hx.1)
   obtain⟨t1,rfl⟩:=rx
   obtain⟨a2,_,_,rfl,_,_,_,_,p2⟩:=cK I hs hy ry
   exact⟨RcAt.str_list _ _ p2 hu,RcNeAt.str_list _ _ p2 hu,EqAt.str_list _ _ p2 hu⟩
 |raw _=>cases y<;>cases e
 |dct _ _=>cases y<;>cases e
 |dci _ _=>cases y<;>cases e
 |exc _=>cases y<;>cases e
 |scr c=>cases y<;>cases e
 |tup c=>
  cases y with
  |non=>
   cases e
   obtain⟨a1,_,_,rfl,_,_,_,_,p1⟩:=cT I hs hx rx
   cases (show _=_ from hy)
   cases ry
   exact⟨RcAt.tuple_none p1 hu,RcNeAt.tuple_none p1 hu,EqAt.tuple_none p1 hu⟩
  |bl d=>
   cases e
   obtain⟨a1,_,_,rfl,_,_,_,_,p1⟩:=cT I hs hx rx
   cases (show _=_ from hy)
   cases ry
   exact⟨RcAt.tuple_bool _ p1 hu,RcNeAt.tuple_bool _ p1 hu,EqAt.tuple_bool _ p1 hu⟩
  |int d=>
   cases e
   obtain⟨a1,_,_,rfl,_,_,_,_,p1⟩:=cT I hs hx rx
   cases (show _=_ from hy)
   obtain⟨t2,rfl⟩:=ry
   exact⟨RcAt.tuple_int _ _ p1 hu,RcNeAt.tuple_int _ _ p1 hu,EqAt.tuple_int _ _ p1 hu⟩
  |str d=>
   cases e
   obtain⟨a1,_,_,rfl,_,_,_,_,p1⟩:=cT I hs hx rx
   cases (show _=_ from hy.1)
   obtain⟨t2,rfl⟩:=ry
   exact⟨RcAt.tuple_str _ _ p1 hu,RcNeAt.tuple_str _ _ p1 hu,EqAt.tuple_str _ _ p1 hu⟩
  |raw d=>cases e
  |dct _ _=>cases e
  |dci _ _=>cases e
  |exc d=>cases e
  |scr d=>cases e
  |tup d=>cases e
  |lst d=>
   cases e
   obtain⟨a1,_,_,rfl,_,_,_,_,p1⟩:=cT I hs hx rx
   obtain⟨a2,_,_,rfl,_,_,_,_,p2⟩:=cK I hs hy ry
   exact⟨RcAt.tuple_list p1 p2 hu,RcNeAt.tuple_list p1 p2 hu,EqAt.tuple_list p1 p2 hu⟩
 |lst c=>
  cases y with
  |non=>
   cases e
   obtain⟨a1,_,_,rfl,_,_,_,_,p1⟩:=cK I hs hx rx
   cases (show _=_ from hy)
   cases ry
   exact⟨RcAt.list_none p1 hu,RcNeAt.list_none p1 hu,EqAt.list_none p1 hu⟩
  |bl d=>
   cases e
   obtain⟨a1,_,_,rfl,_,_,_,_,p1⟩:=cK I hs hx rx
   cases (show _=_ from hy)
   cases ry
   exact⟨RcAt.list_bool _ p1 hu,RcNeAt.list_bool _ p1 hu,EqAt.list_bool _ p1 hu⟩
  |int d=>
   cases e
   obtain⟨a1,_,_,rfl,_,_,_,_,p1⟩:=cK I hs hx rx
   cases (show _=_ from hy)
   obtain⟨t2,rfl⟩:=ry
   exact⟨RcAt.list_int _ _ p1 hu,RcNeAt.list_int _ _ p1 hu,EqAt.list_int _ _ p1 hu⟩
  |str d=>
   cases e
   obtain⟨a1,_,_,rfl,_,_,_,_,p1⟩:=cK I hs hx rx
   cases (show _=_ from hy.1)
   obtain⟨t2,rfl⟩:=ry
   exact⟨RcAt.list_str _ _ p1 hu,RcNeAt.list_str _ _ p1 hu,EqAt.list_str _ _ p1 hu⟩
  |raw d=>cases e
  |dct _ _=>cases e
  |dci _ _=>cases e
  |exc d=>cases e
  |scr d=>cases e
  |tup d=>
   cases e
   obtain⟨a1,_,_,rfl,_,_,_,_,p1⟩:=cK I hs hx rx
   obtain⟨a2,_,_,rfl,_,_,_,_,p2⟩:=cT I hs hy ry
   exact⟨RcAt.list_tuple p1 p2 hu,RcNeAt.list_tuple p1 p2 hu,EqAt.list_tuple p1 p2 hu⟩
  |lst d=>cases e
end
def ev(f:D→D→Option Bool)(xs ys:List D)(j:Nat):Bool:=match xs[j]?,ys[j]? with
 |some x,some y=>(f x y).getD false
 |_,_=>false
theorem oa{f:D→D→Option Bool}:∀{xs ys:List D}{b:Bool},my f xs ys=some b→∀(j:Nat) (x y:D),xs[j]? =some x→ys[j]? =some y→∃c,f x y=some c
 |[],_,_,_,_,_,_,h,_=>by simp at h
 |_::_,[],_,_,_,_,_,_,h=>by simp at h
 |x::xs,y::ys,b,e,j,x',y',hx,hy=>by
  unfold my at e
  split at e
  ·rename_i b1 r1 e1 e2
   cases j with
   |zero=>simp at hx hy;subst hx hy;exact⟨_,e1⟩
   |succ j=>exact oa e2 j x' y' (by simpa using hx) (by simpa using hy)
  ·cases e
theorem mB{f:D→D→Option Bool}:∀{xs ys:List D}{b:Bool},my f xs ys=some b→b=((List.range (min xs.length ys.length)).all (ev f xs ys)&&xs.length==ys.length)
 |[],[],_,e=>by cases e;rfl
 |[],_::_,_,e=>by cases e;simp
 |_::_,[],_,e=>by cases e;simp
 |x::xs,y::ys,b,e=>by
  unfold my at e
  split at e
  ·rename_i b1 r1 e1 e2
   cases e
   have h:=mB e2
   rw[List.length_cons,List.length_cons,Nat.succ_min_succ,List.range_succ_eq_map,List.all_cons,List.all_map]
   have e0:ev f (x::xs) (y::ys) 0=b1:=by unfold ev;simp[e1]
   have e3:(ev f (x::xs) (y::ys)∘Nat.succ)=ev f xs ys:=by funext j;simp[ev,Function.comp]
   have e4:(xs.length+1==ys.length+1)=(xs.length==ys.length):=by simp
   rw[e0,e3,e4,h,Bool.and_assoc]
  ·cases e
section
variable{X:Cx}{pins:List (Addr×Obj)}{σ:St}{F H:Hp}{s:Shared}
theorem gk{f:D→D→Option Bool}(h:∀x y v b,Den X.K F x v→Den X.K F y v→f x y=some b→b=true):∀{xs ys:List D}{vs:List V}{b:Bool},DenL X.K F xs vs→DenL X.K F ys vs→my f xs ys=some b→b=true
 |[],[],_,_,_,_,e=>by cases e;rfl
 |[],_::_,_,_,h1,h2,_=>by
  cases (show _=_ from h1)
  obtain⟨v,r,z,_⟩:=h2
  cases z
 |_::_,[],_,_,h1,h2,_=>by
  cases (show _=_ from h2)
  obtain⟨v,r,z,_⟩:=h1
  cases z
 |x::xs,y::ys,_,b,⟨v,r,e1,q1,q2⟩,⟨v',r',e2,q3,q4⟩,e=>by
  subst e1
  cases e2
  unfold my at e
  split at e
  ·rename_i b1 r1 f1 f2
   cases e
   rw[h x y v b1 q1 q3 f1,gk h q2 q4 f2]
   rfl
  ·cases e
theorem lC{x y:D}{v:V}{b:Bool}(hx:Den X.K F x v)(hy:Den X.K F y v)(e:pV x y=some b):b=true:=by
 cases x<;>cases y<;>first
  |(cases e;done)
  |(cases e;cases (show _=_ from hx);cases (show _=_ from hy);first | rfl | simp)
  |(cases e;cases (show _=_ from hx.1);cases (show _=_ from hy.1);simp)
  |(cases e;cases (show _=_ from hx);cases (show _=_ from hy.1))
  |(cases e;cases (show _=_ from hx.1);cases (show _=_ from hy))
  |(cases e;obtain⟨_,_,z,_⟩:=hx;subst z;cases (show _=_ from hy);done)
  |(cases e;obtain⟨_,_,z,_⟩:=hx;subst z;cases (show _=_ from hy.1);done)
  |(cases e;obtain⟨_,z,_⟩:=hx;subst z;cases (show _=_ from hy);done)
  |(cases e;obtain⟨_,z,_⟩:=hx;subst z;cases (show _=_ from hy.1);done)
  |(cases e;obtain⟨_,_,z,_⟩:=hy;subst z;cases (show _=_ from hx);done)
  |(cases e;obtain⟨_,_,z,_⟩:=hy;subst z;cases (show _=_ from hx.1);done)
  |(cases e;obtain⟨_,z,_⟩:=hy;subst z;cases (show _=_ from hx);done)
  |(cases e;obtain⟨_,z,_⟩:=hy;subst z;cases (show _=_ from hx.1);done)
  |(cases e;obtain⟨_,_,z,h2,_⟩:=hx;obtain⟨_,_,z',C_,_⟩:=hy;subst z;cases z';rw[h2] at C_;cases C_;done)
  |(cases e;cases (show _=_ from hx);cases (show _=_ from hy);done)
  |(cases e;cases (show _=_ from hx.1);cases (show _=_ from hy.1);done)
theorem gj(I:Inv X pins σ H s)(hs:Same F H):∀(n:Nat) (x y:D) (v:V) (b:Bool),Den X.K F x v→Den X.K F y v→jF n x y=some b→b=true
 |0,x,y,v,b,hx,hy,e=>lC hx hy (by unfold jF at e;exact e)
 |n+1,x,y,v,b,hx,hy,e=>by
  unfold jF at e
  split at e
  ·rename_i xs ys _
   obtain⟨a,vs,rfl,h2,h3,_⟩:=hx
   obtain⟨a',w9,z,k2,k3,_⟩:=hy
   cases z
   rw[h2] at k2
   cases k2
   exact gk (gj I hs _) h3 k3 (by simpa using e)
  ·rename_i xs ys _
   obtain⟨a,vs,rfl,h2,h3,_⟩:=hx
   obtain⟨a',w9,z,k2,k3,_⟩:=hy
   cases z
   rw[h2] at k2
   cases k2
   exact gk (gj I hs _) h3 k3 (by simpa using e)
  ·rename_i xs ys _
   obtain⟨a,rfl,h2,_⟩:=hx
   obtain⟨a',w9,z,k2,k3,_⟩:=hy
   cases z
   have hv:=I.list_inj (Same.seq hs h2) (SqL.of (hs _ _ k2))
   rw[←hv] at k3
   exact gk (gj I hs _) (DenL.ints xs) k3 (by simpa using e)
  ·exact lC hx hy e
theorem Vals.at{vs:List V}{aH:List Value}(r:Vals vs aH){j:Nat}(h:j<aH.toArray.size):∃v,vs[j]? =some v∧RelV v aH.toArray[j]:=by
 have hl:=r.length
 have hj:j<vs.length:=by rw[List.size_toArray] at h;omega
 obtain⟨u,e1,e2⟩:=r.get (List.getElem?_eq_getElem hj)
 refine⟨vs[j],List.getElem?_eq_getElem hj,?_⟩
 have:aH.toArray[j]=u:=by
  have:=(List.getElem?_eq_some_iff.mp e1).2
  simpa using this
 rw[this]
 exact e2
theorem ji{f:D→D→Option Bool}{A:Around}{xs ys:List D}{vs ws:List V}{aH dR:List Value}{b:Bool}(h1:DenL X.K F xs vs)(h2:DenL X.K F ys ws)(r1:Vals vs aH)(r2:Vals ws dR)(e:my f xs ys=some b)
 (ih:∀x y v w u t c,Den X.K F x v→Den X.K F y w→RelV v u→RelV w t→f x y=some c→EqAt A s u t c):
 ∀j (k1:j<aH.toArray.size) (k2:j<dR.toArray.size),EqAt A s aH.toArray[j] dR.toArray[j] (ev f xs ys j):=fun j k1 k2=>by
 obtain⟨v,e1,q1⟩:=Vals.at r1 k1
 obtain⟨w,e2,q2⟩:=Vals.at r2 k2
 obtain⟨x,e3,q3⟩:=h1.at e1
 obtain⟨y,e4,q4⟩:=h2.at e2
 obtain⟨c,hc⟩:=oa e j x y e3 e4
 have:ev f xs ys j=c:=by unfold ev;rw[e3,e4];simp[hc]
 rw[this]
 exact ih x y v w _ _ c q3 q4 q1 q2 hc
theorem lL{f:D→D→Option Bool}{A:Around}(hu:A.units<cLine){xs ys:List D}{vs ws:List V}{aH dR:List Value}{b:Bool}{a a':Addr}(h1:DenL X.K F xs vs)(h2:DenL X.K F ys ws)(r1:Vals vs aH)(r2:Vals ws dR)
 (p1:s.heap.IsList a aH.toArray)(p2:s.heap.IsList a' dR.toArray)(e:my f xs ys=some b)(hr:a=a'→b=true)
 (ih:∀x y v w u t c,Den X.K F x v→Den X.K F y w→RelV v u→RelV w t→f x y=some c→EqAt A.in1 s u t c):EqAll A s (.ref a) (.ref a') b:=by
 have l1:=h1.len
 have l2:=h2.len
 have l3:=r1.length
 have l4:=r2.length
 have hv:=mB e
 have core:RcAt A s (.ref a) (.ref a') b∧RcNeAt A s (.ref a) (.ref a') (!b):=by
  by_cases hl:xs.length=ys.length
  ·have hsz:aH.toArray.size=dR.toArray.size:=by rw[List.size_toArray,List.size_toArray];omega
   have hb:b=(List.range aH.toArray.size).all (ev f xs ys):=by
    rw[hv,hl,Nat.min_self,beq_self_eq_true,Bool.and_true]
    congr 2
    rw[List.size_toArray];omega
   rw[hb]
   exact⟨RcAt.lists p1 p2 hsz hu (ji h1 h2 r1 r2 e ih),RcNeAt.lists p1 p2 hsz hu (ji h1 h2 r1 r2 e ih)⟩
  ·have hb:b=false:=by rw[hv,show (xs.length==ys.length)=false from by simpa using hl,Bool.and_false]
   have hsz:(aH.toArray.size !=dR.toArray.size)=true:=by
    rw[List.size_toArray,List.size_toArray]
    simp
    omega
   rw[hb]
   exact⟨RcAt.lists_lengths p1 p2 hsz hu,RcNeAt.lists_lengths p1 p2 hsz hu⟩
 refine⟨core.1,core.2,?_⟩
 by_cases hq:a=a'
 ·rw[hr hq]
  subst hq
  exact EqAt.same _
 ·exact EqAt.of_refs hq core.1
theorem qD{f:D→D→Option Bool}{A:Around}(hu:A.units<cLine){xs ys:List D}{vs ws:List V}{aH dR:List Value}{b:Bool}{a a':Addr}(h1:DenL X.K F xs vs)(h2:DenL X.K F ys ws)(r1:Vals vs aH)(r2:Vals ws dR)
 (p1:s.heap.IsTuple a aH.toArray)(p2:s.heap.IsTuple a' dR.toArray)(e:my f xs ys=some b)(hr:a=a'→b=true)
 (ih:∀x y v w u t c,Den X.K F x v→Den X.K F y w→RelV v u→RelV w t→f x y=some c→EqAt A.in1 s u t c):EqAll A s (.ref a) (.ref a') b:=by
 have l1:=h1.len
 have l2:=h2.len
 have l3:=r1.length
 have l4:=r2.length
 have hb:b=((List.range (min aH.toArray.size dR.toArray.size)).all (ev f xs ys)&&aH.toArray.size==dR.toArray.size):=by
  rw[mB e,List.size_toArray,List.size_toArray,←l3,←l4,←l1,←l2]
 have core:RcAt A s (.ref a) (.ref a') b∧RcNeAt A s (.ref a) (.ref a') (!b):=by
  rw[hb]
  exact⟨RcAt.tuples p1 p2 hu (ji h1 h2 r1 r2 e ih),RcNeAt.tuples p1 p2 hu (ji h1 h2 r1 r2 e ih)⟩
 refine⟨core.1,core.2,?_⟩
 by_cases hq:a=a'
 ·rw[hr hq]
  subst hq
  exact EqAt.same _
 ·exact EqAt.of_refs hq core.1
theorem pW(I:Inv X pins σ H s)(hs:Same F H):∀(n:Nat) (A:Around) (x y:D) (v w:V) (u t:Value) (b:Bool),A.units+n<cLine→Den X.K F x v→Den X.K F y w→RelV v u→RelV w t→jF n x y=some b→EqAll A s u t b
 |0,A,x,y,v,w,u,t,b,hu,hx,hy,rx,ry,e=>oe I hs (by omega) hx hy rx ry (by unfold jF at e;exact e)
 |n+1,A,x,y,v,w,u,t,b,hu,hx,hy,rx,ry,e=>by
  have Bf:A.units<cLine:=by omega
  have EJ:A.in1.units+n<cLine:=by show A.units+1+n<cLine;omega
  have hrefl:=gj (F:=F) I hs (n+1) x y
  have ih:∀x y v w u t c,Den X.K F x v→Den X.K F y w→RelV v u→RelV w t→jF n x y=some c→EqAt A.in1 s u t c:=fun x y v w u t c q1 q2 q3 q4 q5=>(pW I hs n A.in1 x y v w u t c EJ q1 q2 q3 q4 q5).eq
  have e0:=e
  unfold jF at e
  split at e
  ·rename_i xs ys heq
   cases heq
   obtain⟨a,vs,aH,rfl,zV,h2,h3,r1,p1⟩:=cT I hs hx rx
   obtain⟨a',w9,its',rfl,zW,k2,k3,AD,As⟩:=cT I hs hy ry
   exact qD Bf h3 k3 r1 AD p1 As e (fun z=>by subst z;exact hrefl v b hx (by rw[zV,←zW];exact hy) e0) ih
  ·rename_i xs ys heq
   cases heq
   obtain⟨a,vs,aH,rfl,zV,h2,h3,r1,p1⟩:=cK I hs hx rx
   obtain⟨a',w9,its',rfl,zW,k2,k3,AD,As⟩:=cK I hs hy ry
   exact lL Bf h3 k3 r1 AD p1 As e (fun z=>by subst z;exact hrefl v b hx (by rw[zV,←zW];exact hy) e0) ih
  ·rename_i xs ys heq
   cases heq
   obtain⟨a,aH,rfl,zV,h2,r1,p1⟩:=zf I hs hx rx
   obtain⟨a',w9,its',rfl,zW,k2,k3,AD,As⟩:=cK I hs hy ry
   exact lL Bf (DenL.ints _) k3 r1 AD p1 As e (fun z=>by subst z;exact hrefl v b hx (by rw[zV,←zW];exact hy) e0) ih
  ·exact oe I hs Bf hx hy rx ry e
end
def jl(x y:D):M D:=match jF 6 x y with | some b=>M.ret (.bl b) | none=>M.stuck
def nN(x y:D):M D:=match jF 6 x y with | some b=>M.ret (.bl (!b)) | none=>M.stuck
def AF(K:W.Frag):R2:=fun x y H Q=>∃F dx dy b,Same F H∧Den K F dx x∧Den K F dy y∧jF 6 dx dy=some b∧Q (.bl b) H
def AK(K:W.Frag):R2:=fun x y H Q=>∃F dx dy b,Same F H∧Den K F dx x∧Den K F dy y∧jF 6 dx dy=some b∧Q (.bl (!b)) H
section
variable{X:Cx}{Xw:Nat→Hp→Prop}{a b:Expr}{δa δb:DE}{pos:Pos}
theorem uy(hu:X.A.units+64<cLine):OpR X (compareOp .Eq) (AF X.K):=by
 intro pins s σ H x y v u Q I rx ry h
 obtain⟨F,dx,dy,b,hs,hx,hy,e,q⟩:=h
 exact(pW I hs 6 X.A dx dy x y v u b (by omega) hx hy rx ry e).rc _ _ _ _ ⟨.bl b,H,I,rfl,q⟩
theorem yJ(hu:X.A.units+64<cLine):OpR X (compareOp .NotEq) (AK X.K):=by
 intro pins s σ H x y v u Q I rx ry h
 obtain⟨F,dx,dy,b,hs,hx,hy,e,q⟩:=h
 exact(pW I hs 6 X.A dx dy x y v u b (by omega) hx hy rx ry e).ne _ _ _ _ ⟨.bl (!b),H,I,rfl,q⟩
theorem uA{K:W.Frag}:pL K (AF K) jl:=fun Xw F H x y dx dy Q s hx hy w=>by
 unfold jl at w
 split at w
 ·rename_i b e
  exact⟨F,dx,dy,b,s,hx,hy,e,WP.now w s rfl⟩
 ·exact w.elim
theorem yL{K:W.Frag}:pL K (AK K) nN:=fun Xw F H x y dx dy Q s hx hy w=>by
 unfold nN at w
 split at w
 ·rename_i b e
  exact⟨F,dx,dy,b,s,hx,hy,e,WP.now w s rfl⟩
 ·exact w.elim
theorem AA(hu:X.A.units+64<cLine)(ha:PD X Xw a δa)(hb:PD X Xw b δb):nS X Xw (.Compare a [.Eq] [b] pos) (eu (d2 jl δa δb)):=gL (uy hu) uA ha hb
theorem gM(hu:X.A.units+64<cLine)(ha:PD X Xw a δa)(hb:PD X Xw b δb):nS X Xw (.Compare a [.NotEq] [b] pos) (eu (d2 nN δa δb)):=gL (yJ hu) yL ha hb
theorem fO(hu:X.A.units+64<cLine)(ha:PD X Xw a δa)(hb:PD X Xw b δb):PD X Xw (.Compare a [.Eq] [b] pos) (d2 jl δa δb):=qo (uy hu) uA ha hb
end
def PDW(X:Cx)(Xw:Nat→Hp→Prop)(e:Expr)(δ:DT):Prop:=PW X e (CO X.K Xw δ)
theorem PW.weak{X:Cx}{e:Expr}{t t':TT}(h:PW X e t)(k:∀σ H Q,t' σ H Q→t σ H Q):PW X e t':=fun wh pins s σ H Q I w=>h wh pins s σ H Q I (k σ H Q w)
section
variable{X:Cx}{Xw:Nat→Hp→Prop}{a b c:Expr}{rest:List Expr}{δa δb δc:DE}{τa τb:DT}{pos:Pos}
theorem gK(ha:nS X Xw a τa):PDW X Xw (.BoolOp .Or [a] pos) τa:=zb ha
theorem j6(ha:nS X Xw a τa)(hb:PDW X Xw (.BoolOp .Or (b::rest) pos) τb):PDW X Xw (.BoolOp .Or (a::b::rest) pos) (kI τa τb):=PW.weak (AB ha hb) fun σ H Q ⟨F,ρ,s,w⟩=>by
 refine⟨F,ρ,s,WPB.mono (WPB.bindB w) fun v H1 ⟨F1,e1,w1⟩=>?_⟩
 cases v with
 |false=>exact⟨F1,ρ,s.ext e1,w1⟩
 |true=>exact w1 _ _ (Ext.refl e1.fh)
theorem PDW.t(h:PDW X Xw a τa):nS X Xw a τa:=PW.pt h
theorem b8(ha:nS X Xw a τa):nS X Xw (.UnaryOp .Not a pos) (bN τa):=PT.weak (y_ ha) fun σ H Q ⟨F,ρ,s,w⟩=>
 ⟨F,ρ,s,WPB.mono (WPB.bindB w) fun v H1 ⟨F1,e1,w1⟩=>w1 _ _ (Ext.refl e1.fh)⟩
def pz:D→M Bool
 | .non=>M.ret false
 | .bl b=>M.ret b
 | .lst ds=>M.ret (!ds.isEmpty)
 | .tup ds=>M.ret (!ds.isEmpty)
 |_=>M.stuck
def bO(δ:DE):DT:=fun ρ=>δ ρ>>=pz
theorem DenL.isEmpty{K:W.Frag}{F:Hp}{ds:List D}{vs:List V}(h:DenL K F ds vs):ds.isEmpty=vs.isEmpty:=by
 have:=h.len
 cases ds<;>cases vs<;>simp_all
theorem cC(ha:PD X Xw a δa)(he:∀whole,isTrue a X.env whole=(do let v←whole;standAt a.pos;holding [v] (truthy v)):=by intro _;rfl):nS X Xw a (bO δa):=PT.weak (uU ha he) fun σ H Q ⟨F,ρ,s,w⟩=>by
 refine⟨F,ρ,s,WP.mono (WPB.bind (K:=X.K) w) fun v H1 ⟨F1,d,e1,q1,w1⟩=>?_⟩
 cases d with
 |non=>cases (show _=_ from q1);exact⟨false,rfl,w1 _ _ (Ext.refl e1.fh)⟩
 |bl b=>cases (show _=_ from q1);exact⟨b,rfl,w1 _ _ (Ext.refl e1.fh)⟩
 |lst ds=>
  obtain⟨a,vs,rfl,h2,h3,_⟩:=q1
  exact⟨!ds.isEmpty, .inl ⟨vs,SqL.of (e1.fh _ _ h2),by rw[h3.isEmpty]⟩,w1 _ _ (Ext.refl e1.fh)⟩
 |tup ds=>
  obtain⟨a,vs,rfl,h2,h3,_⟩:=q1
  exact⟨!ds.isEmpty, .inr (.inl ⟨vs,SqT.of (e1.fh _ _ h2),by rw[h3.isEmpty]⟩),w1 _ _ (Ext.refl e1.fh)⟩
 |_=>exact w1.elim
theorem mW{op}(h:PD X Xw a δa):PD X Xw (.BoolOp op [a] pos) δa:=yX h
theorem j5(ha:PD X Xw a δa)(hb:PD X Xw (.BoolOp .And (b::rest) pos) δb):PD X Xw (.BoolOp .And (a::b::rest) pos) (cG δa δb):=PE.weak (yT ha hb) fun σ H Q ⟨F,ρ,s,w⟩=>by
 refine⟨F,ρ,s,WP.mono (WP.bind w) fun v H1 ⟨F1,d,e1,q1,w1⟩=>?_⟩
 cases d with
 |bl k=>
  refine⟨k,q1,?_⟩
  cases k with
  |true=>exact⟨F1,ρ,s.ext e1,w1⟩
  |false=>exact WP.now w1 e1.fh rfl
 |_=>exact w1.elim
theorem yQ(ha:PD X Xw a δa):PD X Xw (.UnaryOp .Not a pos) (xg δa):=PE.weak (yW ha) fun σ H Q ⟨F,ρ,s,w⟩=>by
 refine⟨F,ρ,s,WP.mono (WP.bind w) fun v H1 ⟨F1,d,e1,q1,w1⟩=>?_⟩
 cases d with
 |bl k=>exact⟨k,q1,WP.now w1 e1.fh rfl⟩
 |_=>exact w1.elim
def pS(p q:Int→Int→Bool)(a b c:DE):DE:=fun ρ=>a ρ>>=fun x=>b ρ>>=fun y=>match x,y with
 | .int i, .int j=>if p i j then c ρ>>=fun z=>gI (fun i j=> .bl (q i j)) y z else M.ret (.bl false)
 |_,_=>M.stuck
theorem ma{p q:Int→Int→Bool}:∀σ H Q,tD X.K Xw (pS p q δa δb δc) σ H Q→qB (sG fun i j=> .bl (p i j)) (sG fun i j=> .bl (q i j)) (tD X.K Xw δa) (tD X.K Xw δb) (tD X.K Xw δc) σ H Q:=fun σ H Q ⟨F,ρ,s,w⟩=>by
 refine⟨F,ρ,s,WP.mono (WP.bind w) fun v H1 ⟨F1,d,e1,q1,w1⟩=>?_⟩
 refine⟨F1,ρ,s.ext e1,WP.mono (WP.bind w1) fun u H2 ⟨F2,d',e2,q2,w2⟩=>?_⟩
 cases d with
 |int i=>
  cases d' with
  |int j=>
   refine⟨i,j,q1,q2,p i j,rfl,?_⟩
   have w2:WP X.K Xw F2 H2 (if p i j then δc ρ>>=fun z=>gI (fun i j=> .bl (q i j)) (.int j) z else M.ret (.bl false)) Q:=w2
   cases hp:p i j with
   |false=>
    rw[hp] at w2
    exact WP.now w2 e2.fh rfl
   |true=>
    rw[hp] at w2
    refine⟨F2,ρ,(s.ext e1).ext e2,WP.mono (WP.bind w2) fun u' H3 ⟨F3,DX,e3,q3,w3⟩=>?_⟩
    exact uz (K:=X.K) (gv:=fun i j=> .bl (q i j)) (gd:=fun i j=> .bl (q i j)) (fun _ _ _=>rfl) Xw F3 H3 u u' (.int j) DX Q e3.fh q2 q3 w3
  |_=>exact w2.elim
 |_=>exact w2.elim
theorem uD{op qj:CmpOp}{p q:Int→Int→Bool}(ho:OpR X (compareOp op) (sG fun i j=> .bl (p i j)))(lH:OpR X (compareOp qj) (sG fun i j=> .bl (q i j)))(ha:PD X Xw a δa)(hb:PD X Xw b δb)(hc:PD X Xw c δc)
 (hm:lastMarks [op,qj] [b,c]=false:=by with_unfolding_all rfl):PD X Xw (.Compare a [op,qj] [b,c] pos) (pS p q δa δb δc):=PE.weak (uJ ho lH ha hb hc hm) ma
theorem uS{op qj:CmpOp}{p q:Int→Int→Bool}(ho:OpR X (compareOp op) (sG fun i j=> .bl (p i j)))(lH:OpR X (compareOp qj) (sG fun i j=> .bl (q i j)))(ha:PD X Xw a δa)(hb:PD X Xw b δb)(hc:PD X Xw c δc)
 (hm:lastMarks [op,qj] [b,c]=false:=by with_unfolding_all rfl):nS X Xw (.Compare a [op,qj] [b,c] pos) (eu (pS p q δa δb δc)):=PT.weak (uT ho lH ha hb hc hm) fun σ H Q ⟨F,ρ,s,w⟩=>by
 refine ma σ H _ ⟨F,ρ,s,WP.mono (WPB.bind w) fun v H1 ⟨F1,d,e1,q1,w1⟩=>?_⟩
 cases d with
 |bl k=>exact⟨k,q1,w1 _ _ (Ext.refl e1.fh)⟩
 |_=>exact w1.elim
def nQ(K:W.Frag)(r:List V→Hp→VK→Prop)(g:List D→M D):Prop:=∀(Xw:Nat→Hp→Prop) (F H:Hp) (vs:List V) (ds:List D) (Q:VK),Same F H→DenL K F ds vs→WP K Xw F H (g ds) Q→r vs H Q
variable{x:Str}{p:Pos}{e:Expr}{es:List Expr}{δs:DA}{id T:String}{r:List V→Hp→VK→Prop}{g:List D→M D}
theorem vh(h:nQ X.K r g):∀σ H Q,tD X.K Xw (dA g δs) σ H Q→CM r (DK X.K Xw δs) σ H Q:=fun σ H Q ⟨F,ρ,s,w⟩=>
 ⟨F,ρ,s,WPL.mono (WP.bindL w) fun vs H1 ⟨F1,ds,e1,q1,w1⟩=>h Xw F1 H1 vs ds Q e1.fh q1 w1⟩
theorem eV(hc:CallR X (.builtin id) r)(hd:nQ X.K r g)(hg:Gl X x)(hm:X.mg x=none)(hv:bootBuiltins x=some (.builtin id))(ha:kG X Xw (e::es) δs)(hn:x≠"__name__":=by decide)(mC:(x==("__debug__":Str))=false:=by decide)
 (he:starEach (e::es) X.env=(false,eval e X.env)::starEach es X.env:=by rfl)(pJ:(backTo pos (starEach es X.env)).any (·.1)=false:=by rfl):PD X Xw (.Call (.Name x p) (e::es) [] pos) (dA g δs):=
 PE.weak (uI hc hg hm hv ha hn mC he pJ) (vh hd)
theorem il(hc:CallR X (.type T) r)(hd:nQ X.K r g)(hg:Gl X x)(hm:X.mg x=none)(hv:bootBuiltins x=some (.type T))(ha:kG X Xw (e::es) δs)(hn:x≠"__name__":=by decide)(mC:(x==("__debug__":Str))=false:=by decide)
 (he:starEach (e::es) X.env=(false,eval e X.env)::starEach es X.env:=by rfl)(pJ:(backTo pos (starEach es X.env)).any (·.1)=false:=by rfl):PD X Xw (.Call (.Name x p) (e::es) [] pos) (dA g δs):=
 PE.weak (sD hc hg hm hv ha hn mC he pJ) (vh hd)
def bg:List D→M D
 |[.lst ds]=>M.ret (.int ds.length)
 |[.tup ds]=>M.ret (.int ds.length)
 |[.str x]=>M.ret (.int x.length)
 |[.scr ns]=>M.ret (.int ns.length)
 |_=>M.stuck
theorem r9:nQ X.K (fun xs H Q=>(∃p ys,xs=[.ref p]∧(SqL X.K H p ys∨SqT X.K H p ys)∧Q (.int ys.length) H)∨∃z,xs=[.str z]∧z.length≤sizeLine∧Q (.int z.length) H) bg:=fun Xw F H vs ds Q s h w=>by
 unfold bg at w
 split at w
 ·obtain⟨v,rfl,h1⟩:=h.one
  obtain⟨a,vs,rfl,h2,h3,_⟩:=h1
  exact .inl ⟨a,vs,rfl, .inl (SqL.of (s _ _ h2)),by rw[←h3.len];exact WP.now w s rfl⟩
 ·obtain⟨v,rfl,h1⟩:=h.one
  obtain⟨a,vs,rfl,h2,h3,_⟩:=h1
  exact .inl ⟨a,vs,rfl, .inr (SqT.of (s _ _ h2)),by rw[←h3.len];exact WP.now w s rfl⟩
 ·obtain⟨v,rfl,h1⟩:=h.one
  cases (show _=_ from h1.1)
  exact .inr ⟨_,rfl,by have:=h1.2;have:=cj;omega,WP.now w s rfl⟩
 ·obtain⟨v,rfl,h1⟩:=h.one
  obtain⟨a,rfl,h2,_⟩:=h1
  exact .inl ⟨a,_,rfl, .inl (Same.seq s h2),by rw[List.length_map];exact WP.now w s rfl⟩
 ·exact w.elim
theorem bF(hg:Gl X "len")(hm:X.mg "len"=none)(ha:kG X Xw [e] δs)(he:starEach [e] X.env=[(false,eval e X.env)]:=by rfl):PD X Xw (.Call (.Name "len" p) [e] [] pos) (dA bg δs):=
 eV (mj.or ml) r9 hg hm PySem.boot_len ha (by decide) (by decide) he rfl
end
theorem WP.xw{K:W.Frag}{Xw Xw':Nat→Hp→Prop}{F H:Hp}{m:M D}{Q:VK}(h:WP K Xw F H m Q)(k:∀n H,Xw n H→Xw' n H):WP K Xw' F H m Q:=by
 match m,h with
 |none,h=>exact h
 |some (.ok d),h=>exact h
 |some (.ex n),h=>exact fun F' H' e=>k n H' (h F' H' e)
theorem fw{X:Cx}{Xw:Nat→Hp→Prop}{st:Stmt}{τ:DS}(h:eB X.nox (fun _ _=>False) st τ):eB X Xw st (fun ρ=>noex (τ ρ)):=fun F₀ H₀ pins s σ H D I ⟨F,ρ,S,w⟩=>by
 have w:WPS X.K Xw F₀ H₀ (noex (τ ρ)) D:=w
 have w':tS X.K (fun _ _=>False) F₀ H₀ τ D σ H:=by
  refine⟨F,ρ,S,?_⟩
  rcases(τ ρ).cs with e | ⟨n,e⟩ | ⟨o,e⟩
  ·rw[e] at w;exact w.elim
  ·rw[e] at w;exact w.elim
  ·rw[e] at w⊢
   cases o with
   |nx ρ'=>exact w
   |rt d=>exact w
 refine wpAny_mono (h F₀ H₀ pins s σ H D (I.wish _) w') (fun f s' q=>SP.unwish q) fun _ _ z=>z.elim
def EX(cv:Nat→Value)(Xw:Nat→Hp→Prop):XK:=fun c _ H=>∃n,c=cv n∧Xw n H
def zA(K:W.Frag)(cv:Nat→Value)(k:Nat)(f:List D→M D):Sp:=fun vs H Q E=>∃F ds,Same F H∧DenL K F ds vs∧vs.length=k∧WP K (fun n H'=>E (cv n) none H') F H (f ds) Q
def bV(n:Nat)(τ:DS):List D→M D:=fun ds=>τ (ds.map (fun d=>some (Sl.fz d))++List.replicate (n - ds.length) none)>>=fun o=>match o with
 | .nx _=>M.ret .non
 | .rt d=>M.ret d
section
variable{P:Program}{w:World}{K:W.Frag}{mg:Str→Option Value}{base:Heap}{CX:pK}{cv:Nat→Value}
theorem zX{x qual:Str}{st:Stmt}{f:Addr}{fd:FuncData}{N ps:List Str}{k:Nat}{τ:DS}(Fn:Fun K x qual st f fd)(S:FnScope N ps (af st))
 (oA:∀(aY:Value) (A:Around) (outer:List Env) (s:Shared) (H:Hp) (E:XK),Room k (A.deeper (envOfC qual (af st) s.heap.objs.size f aY))→
  PSDs (cb CX P w K mg base N qual (af st) f aY A outer s H E) (fun n H'=>E (cv n) none H') (aI st) τ):FnOk P w K mg base CX (k+1) f fd ps (zA K cv ps.length (bV N.length τ)):=by
 obtain⟨oc,od,kV,doc,pm,an,aY,ct,xG,rfl,lk,sV⟩:=Fn.ex
 refine zY lk sV S (fun vs H Q E ⟨_,_,_,_,hl,_⟩=>hl) fun A outer s H vs Q E hr xy=>?_
 obtain⟨F,ds,fh,hd,hl,hw⟩:=xy
 refine⟨_,oA aY A outer s H E hr F H,F,ds.map (fun d=>some (Sl.fz d))++List.replicate (N.length - ds.length) none,⟨Ext.refl fh,⟨fh,fun i sl e=>?_⟩,?_,fun i c a e=>?_,fun i j c c' a e=>?_⟩,?_⟩
 ·have hlen:=hd.len
  by_cases hi:i<ds.length
  ·rw[List.getElem?_append_left (by simpa using hi),List.getElem?_map] at e
   cases q:ds[i]? with
   |none=>rw[q] at e;cases e
   |some d=>
    rw[q] at e
    cases e
    obtain⟨v,e1,e2⟩:=hd.get q
    refine⟨v,?_,e2⟩
    unfold L2.start
    rw[List.getElem?_append_left (by simp;omega),List.getElem?_map,e1]
    rfl
  ·rw[List.getElem?_append_right (by simpa using hi),List.getElem?_replicate] at e
   split at e<;>cases e
 ·have hlen:=hd.len
  unfold L2.start
  simp[hlen]
 ·exfalso
  by_cases hi:i<ds.length
  ·rw[List.getElem?_append_left (by simpa using hi),List.getElem?_map] at e
   cases q:ds[i]? with
   |none=>rw[q] at e;cases e
   |some d=>rw[q] at e;cases e
  ·rw[List.getElem?_append_right (by simpa using hi),List.getElem?_replicate] at e
   split at e<;>cases e
 ·exfalso
  by_cases hi:i<ds.length
  ·rw[List.getElem?_append_left (by simpa using hi),List.getElem?_map] at e
   cases q:ds[i]? with
   |none=>rw[q] at e;cases e
   |some d=>rw[q] at e;cases e
  ·rw[List.getElem?_append_right (by simpa using hi),List.getElem?_replicate] at e
   split at e<;>cases e
 ·have hw:WP K (fun n H'=>E (cv n) none H') F H (τ (ds.map (fun d=>some (Sl.fz d))++List.replicate (N.length - ds.length) none)>>=fun o=>match o with | .nx _=>M.ret .non | .rt d=>M.ret d) Q:=hw
  rcases(τ (ds.map (fun d=>some (Sl.fz d))++List.replicate (N.length - ds.length) none)).cs with e | ⟨n,e⟩ | ⟨o,e⟩
  ·rw[e] at hw;exact hw.elim
  ·rw[e] at hw⊢;exact hw
  ·rw[e] at hw⊢
   cases o with
   |nx ρ'=>exact fun σ' F' H' s'=>hw .non H' F' s'.ext rfl
   |rt d=>exact fun v F' H' e' q=>hw v H' F' e' q
end
section
variable{X:Cx}{Xw:Nat→Hp→Prop}{CX:pK}{cv:Nat→Value}{k m:Nat}{f:Addr}{fd:FuncData}{ps:List Str}{g:List D→M D}{x:Str}{p pos:Pos}{e:Expr}{es:List Expr}{δs:DA}
theorem wm(F:FnOk X.prog X.w X.K X.mg X.base CX k f fd ps (zA X.K cv m g))(hr:Room k X.A)(hg:Gl X x)(hm:X.mg x=some (.ref f))(hk:PySem.W.keepIn X.K (.ref f)=true)(hb:Binds X.K fd ps [])(hx:Passes CX X (EX cv Xw))
 (ha:kG X Xw (e::es) δs)(hl:(e::es).length=m)(mC:(x==("__debug__":Str))=false:=by decide)(he:starEach (e::es) X.env=(false,eval e X.env)::starEach es X.env:=by rfl)(pJ:(backTo pos (starEach es X.env)).any (·.1)=false:=by rfl):
 PD X Xw (.Call (.Name x p) (e::es) [] pos) (fun ρ=>δs ρ>>=fun ds=>if ds.length=m then g ds else M.stuck):=PE.weak (wA F hr hg hm hk hb .nil hx ha mC he pJ) fun σ H Q ⟨F,ρ,s,w⟩=>by
 refine⟨F,ρ,s,WPL.mono (WP.bindL w) fun vs H1 ⟨F1,ds,e1,q1,w1⟩=>?_⟩
 split at w1
 ·rename_i Er
  refine⟨F1,ds,e1.fh,by simpa using q1,by rw[List.append_nil,←q1.len];exact Er,WP.xw w1 fun n H h=>⟨n,rfl,h⟩⟩
 ·exact w1.elim
theorem rb{x:Str}{d:D}{v:V}{u:Value}(hg:Gl X x)(hm:X.mg x=some u)(r:RelV v u)(hd:∀F,Den X.K F d v)(mC:(x==("__debug__":Str))=false:=by decide):PD X Xw (.Name x pos) (dC d):=
 eW (wC hg hm r mC) hd
end
theorem obj_some{P:Program}{w:World}{H:Hp}{h:Heap}{a:Addr}{o:HO}(x:ObjOk P w H h a o):∃ob,h.get? a=some ob:=by
 cases o with
 |lst xs=>obtain⟨_,_,_,_,e⟩:=x;exact⟨_,e⟩
 |tup xs=>obtain⟨_,_,_,ob,e,_⟩:=x;exact⟨_,e⟩
 |dK aB=>obtain⟨_,_,_,_,o,_,_,e,_⟩:=x;exact⟨_,e⟩
 |dT aB=>obtain⟨_,_,_,_,o,_,_,e,_⟩:=x;exact⟨_,e⟩
 |set S n=>obtain⟨o,_,_,_,e,_⟩:=x;exact⟨_,e⟩
 |ins C dx fs=>obtain⟨_,_,_,e,_⟩:=x;exact⟨_,e⟩
 |own y=>obtain⟨_,e⟩:=x;exact⟨_,e⟩
 |xd fs=>obtain⟨_,⟨_,_,_,e,_⟩,_⟩:=x;exact⟨_,e⟩
 |rng lo hi=>obtain⟨_,_,_,e⟩:=x;exact⟨_,e⟩
 |frz ob u=>obtain⟨e,_⟩:=x;exact⟨_,e⟩
 |tbl ps=>exact⟨_,(show h.get? a=some _ from x)⟩
 |met f y=>exact⟨_,(show h.get? a=some _ from x)⟩
 |ext φ=>obtain⟨_,⟨_,e⟩,_⟩:=x;exact⟨_,e⟩
def fF(P:Program)(w:World)(cv:Nat→Value):pK:=fun outer H s E e s'=>∃(ea:Addr) (n:Nat) (a0:Value) (B:Heap) (H':Hp),e= .ref ea∧s'.os=s.os∧AllBare s'.gens∧HOk P w H' s'.heap∧Un (jk outer) [] H H' s.heap s'.heap∧
 Heap.FlyingW B outer ea (cv n) a0 s'.heap∧(∀b o,s'.heap.get? b=some o→(H' b≠none∨(s.heap.get? b).isSome=true)→b∉jk outer→B.get? b=some o)∧E (cv n) none H'
section
variable{P:Program}{w:World}{fs:List Addr}{H₀ H:Hp}{h₀ h h':Heap}
theorem w6(u:Un fs [] H₀ H h₀ h)(ka:∀b o,h.get? b=some o→b∉fs→(H b≠none∨(h₀.get? b).isSome=true)→h'.get? b=some o)(kb:∀b o,h.get? b=some o→b∈fs→∃sl,h'.get? b=some {o with slots:=sl}):Un fs [] H₀ H h₀ h' where
 keep:=fun b o e n hb hx=>ka b o (u.keep b o e n hb hx) hb (.inr (by rw[e];rfl))
 slot:=fun b o e n hb hx=>by
  obtain⟨sl,q⟩:=u.slot b o e n hb hx
  obtain⟨zg,q'⟩:=kb b _ q hb
  exact⟨zg,q'⟩
 free:=u.free
 there:=fun b o e hx=>by
  obtain⟨o',q⟩:=u.there b o e hx
  by_cases hb:b∈fs
  ·obtain⟨sl,q'⟩:=kb b _ q hb
   exact⟨_,q'⟩
  ·exact⟨o',ka b o' q hb (.inr (by rw[e];rfl))⟩
 tups:=u.tups
 frzs:=u.frzs
 tbls:=u.tbls
theorem tU(x:HOk P w H h)(hf:∀b∈fs,H b=none)(ka:∀b o,h.get? b=some o→b∉fs→H b≠none→h'.get? b=some o):HOk P w H h':=fun a o e=>by
 refine(x a o e).stay (fun b u hb q=>ka b u q (fun z=>?_) ?_) (fun _ q=>q) fun _ _ q=>q
 ·have hz:=hf b z
  rcases hb with rfl | hb
  ·rw[hz] at e;cases e
  ·rw[hz] at hb;cases hb
 ·rcases hb with rfl | hb
  ·rw[e];exact fun z=>nomatch z
  ·rw[hb];exact fun z=>nomatch z
end
section
variable{P:Program}{w:World}{K:W.Frag}{mg:Str→Option Value}{base:Heap}{N:List Str}{qual:Str}{scope:Scope}{f:Addr}{cd:Value}{A:Around}{outer:List Env}{s₀:Shared}{H₀:Hp}{E:XK}{cv:Nat→Value}
theorem aG:Passes (fF P w cv) (cb (fF P w cv) P w K mg base N qual scope f cd A outer s₀ H₀ E) (EX cv fun n H'=>E (cv n) none H'):=by
 intro pins σ H s e s' I ⟨ea,n,a0,B,H',he,tV,hg,hok,un,C8,hB,m,hm,hE⟩
 subst he
 have yj:((cb (fF P w cv) P w K mg base N qual scope f cd A outer s₀ H₀ E)).env.locals=s₀.heap.objs.size:=rfl
 have vK:jk ((cb (fF P w cv) P w K mg base N qual scope f cd A outer s₀ H₀ E)).stack=s₀.heap.objs.size::jk outer:=rfl
 show wpAny (model P w) (A.deeper (envOfC qual scope s₀.heap.objs.size f cd)) (leaving (envOfC qual scope s₀.heap.objs.size f cd) (.ref ea)) _ _ s'
 refine wpAny_leaves_onW (base:=B) (outer:=outer) (L:=s₀.heap.objs.size) I.ok.frames rfl C8 fun h' x_ ups=>?_
 have xr:∀b∈jk ((cb (fF P w cv) P w K mg base N qual scope f cd A outer s₀ H₀ E)).stack,H' b=none:=fun b hb=>by
  obtain⟨o,ho⟩:∃o,s.heap.get? b=some o:=by
   obtain⟨_,o,ho,_⟩:=I.stack.mem hb
   exact⟨o,ho⟩
  exact un.free b o ho (I.stkFree b hb) (by simp)
 have xA:∀b o,s'.heap.get? b=some o→b∉jk ((cb (fF P w cv) P w K mg base N qual scope f cd A outer s₀ H₀ E)).stack→(H' b≠none∨(s.heap.get? b).isSome=true)→h'.get? b=some o:=fun b o e hb hc=>x_.1 b o (hB b o e hc hb)
 have unA:Un (jk outer) [] H₀ H' s₀.heap s'.heap:=by
  have u1:Un (jk outer) [] H₀ H s₀.heap s.heap:=I.base
  refine⟨fun b o e nn hb hx=>?_,fun b o e nn hb hx=>?_,fun b o e nn hx=>?_,fun b o e hx=>?_,fun b xs q=>un.tups b xs (u1.tups b xs q),fun b o u q=>un.frzs b o u (u1.frzs b o u q),fun b ps q=>?_⟩
  ·refine un.keep b o (u1.keep b o e nn hb hx) (u1.free b o e nn hx) (fun z=>?_) (by simp)
   rw[vK] at z
   rcases List.mem_cons.mp z with z | z
   ·exact absurd (Heap.lt_size e) (by rw[z];exact Nat.lt_irrefl _)
   ·exact hb z
  ·obtain⟨sl,q⟩:=u1.slot b o e nn hb hx
   obtain⟨zg,q'⟩:=un.slot b _ q (u1.free b o e nn hx) (by rw[vK];exact List.mem_cons_of_mem _ hb) (by simp)
   exact⟨zg,q'⟩
  ·obtain⟨o',q⟩:=u1.there b o e hx
   exact un.free b o' q (u1.free b o e nn hx) (by simp)
  ·obtain⟨o',q⟩:=u1.there b o e hx
   exact un.there b o' q (by simp)
  ·obtain⟨m1,q1⟩:=u1.tbls b ps q
   obtain⟨m2,q2⟩:=un.tbls b _ q1
   exact⟨m1++m2,by rw[q2,Array.append_assoc]⟩
 have Dw:∀b,(s₀.heap.get? b).isSome=true→(s.heap.get? b).isSome=true:=fun b hb=>by
  obtain⟨o,ho⟩:=Option.isSome_iff_exists.mp hb
  obtain⟨o',q⟩:=(show Un (jk outer) [] H₀ H s₀.heap s.heap from I.base).there b o ho (by simp)
  rw[q];rfl
 have Cy:∀b,(s₀.heap.get? b).isSome=true→b≠s₀.heap.objs.size:=fun b hb z=>by
  obtain⟨o,ho⟩:=Option.isSome_iff_exists.mp hb
  exact absurd (Heap.lt_size ho) (by rw[z];exact Nat.lt_irrefl _)
 have Ao:∀b,b∉jk outer→(H' b≠none∨(s₀.heap.get? b).isSome=true)→b∉jk ((cb (fF P w cv) P w K mg base N qual scope f cd A outer s₀ H₀ E)).stack:=fun b hb hc z=>by
  rcases hc with hc | hc
  ·exact hc (xr b z)
  ·rw[vK] at z
   rcases List.mem_cons.mp z with z | z
   ·exact Cy b hc z
   ·exact hb z
 refine⟨ea,n,a0,B,H',rfl,tV.trans I.os,hg,tU hok xr (fun b o e hb hc=>xA b o e hb (.inl hc)),w6 unA (fun b o e hb hc=>xA b o e (Ao b hb hc) (hc.imp id (Dw b))) (fun b o e hb=>?_),x_,fun b o e hc hb=>?_,?_⟩
 ·obtain⟨_,o',lH,hd⟩:=C8.2.2.1.mem (show b∈jk ((cb (fF P w cv) P w K mg base N qual scope f cd A outer s₀ H₀ E)).stack by rw[vK];exact List.mem_cons_of_mem _ hb)
  rw[e] at lH
  cases lH
  exact ups b o e hd
 ·have BU:=Ao b hb hc
  obtain⟨o',lH⟩:∃o',s'.heap.get? b=some o':=by
   rcases hc with hc | hc
   ·cases q:H' b with
    |none=>exact absurd q hc
    |some u=>
     exact obj_some (hok b u q)
   ·obtain⟨o1,h1⟩:=Option.isSome_iff_exists.mp hc
    exact unA.there b o1 h1 (by simp)
  have:=hB b o' lH (hc.imp id (Dw b)) BU
  rw[x_.1 b o' this] at e
  cases e
  exact this
 ·rw[hm];exact hE
end
section
variable{X:Cx}{Xw:Nat→Hp→Prop}{cv:Nat→Value}{n:Nat}{C:Addr}{x:Str}{np aP pos:Pos}{e:Expr}{es:List Expr}{δs:DA}{bm:List Value}{B newId Cq:String}
end
def xB:D→Option String
 | .non=>some "NoneType"
 | .bl _=>some "bool"
 | .int _=>some "int"
 | .str _=>some "str"
 | .tup _=>some "tuple"
 | .lst _=>some "list"
 |_=>none
def yr(k T:String):Option Bool:=if T="str"∨T="int"∨T="bool"∨T="tuple"∨T="list" then some (decide (k=T)||(decide (k="bool")&&decide (T="int"))) else none
def ez:List D→M D
 |[d, .raw (.ty T)]=>match xB d with
  |some k=>match yr k T with
   |some b=>M.ret (.bl b)
   |none=>M.stuck
  |none=>M.stuck
 |_=>M.stuck
theorem yC{K:W.Frag}{k T:String}{b:Bool}(hk:k="NoneType"∨k="bool"∨k="int"∨k="str"∨k="tuple"∨k="list")(h:yr k T=some b):PySem.W.kitOne K (.type k) (.type T)=some b:=by
 unfold yr at h
 split at h
 ·rename_i hT
  cases h
  rcases hk with rfl | rfl | rfl | rfl | rfl | rfl<;>rcases hT with rfl | rfl | rfl | rfl | rfl<;>with_unfolding_all rfl
 ·cases h
section
variable{X:Cx}{Xw:Nat→Hp→Prop}{a b e e2:Expr}{es:List Expr}{δa δb:DE}{δs:DA}{pos p:Pos}
def AH(K:W.Frag):List V→Hp→VK→Prop:=fun xs H Q=>∃x T t b,xs=[x, .ty T]∧TyOf K H x t∧PySem.W.kitOne K t (.type T)=some b∧Q (.bl b) H
theorem sZ:CallR X (.builtin "isinstance") (AH X.K):=by
 intro pins s σ H xs us Q I r h
 obtain⟨x,T,t,b,rfl,ty,e,q⟩:=h
 obtain⟨u,w',rfl,r1,r2⟩:=vals2 r
 cases (show w'=_ from r2)
 exact rX I r1 ty e fun tk=>⟨.bl b,H,I.tok tk,rfl,q⟩
theorem vm{K:W.Frag}{F H:Hp}{d:D}{v:V}{k:String}(s:Same F H)(h:Den K F d v)(hk:xB d=some k):TyOf K H v (.type k)∧(k="NoneType"∨k="bool"∨k="int"∨k="str"∨k="tuple"∨k="list"):=by
 cases d with
 |non=>cases hk;cases (show _=_ from h);exact⟨.non, .inl rfl⟩
 |bl x=>cases hk;cases (show _=_ from h);exact⟨.bl x, .inr (.inl rfl)⟩
 |int x=>cases hk;cases (show _=_ from h);exact⟨.int x, .inr (.inr (.inl rfl))⟩
 |str x=>cases hk;cases (show _=_ from h.1);exact⟨.str x, .inr (.inr (.inr (.inl rfl)))⟩
 |tup x=>cases hk;obtain⟨a,vs,rfl,h2,_⟩:=h;exact⟨.tup (s _ _ h2), .inr (.inr (.inr (.inr (.inl rfl))))⟩
 |lst x=>cases hk;obtain⟨a,vs,rfl,h2,_⟩:=h;exact⟨.lst (s _ _ h2), .inr (.inr (.inr (.inr (.inr rfl))))⟩
 |_=>cases hk
theorem rW{K:W.Frag}:nQ K (AH K) ez:=fun Xw F H vs ds Q s h w=>by
 unfold ez at w
 split at w
 ·rename_i d T
  obtain⟨v,v',rfl,h1,h2⟩:=h.two
  cases (show _=_ from h2)
  split at w
  ·rename_i k hk
   split at w
   ·rename_i b hb
    obtain⟨ty,xx⟩:=vm s h1 hk
    exact⟨v,T, .type k,b,rfl,ty,yC xx hb,WP.now w s rfl⟩
   ·exact w.elim
  ·exact w.elim
 ·exact w.elim
theorem ip(hg:Gl X "isinstance")(hm:X.mg "isinstance"=none)(hb:bootBuiltins "isinstance"=some (.builtin "isinstance"))(ha:kG X Xw [e,e2] δs)(he:starEach [e,e2] X.env=(false,eval e X.env)::starEach [e2] X.env:=by rfl)
 (pJ:(backTo pos (starEach [e2] X.env)).any (·.1)=false:=by rfl):PD X Xw (.Call (.Name "isinstance" p) [e,e2] [] pos) (dA ez δs):=
 eV sZ rW hg hm hb ha (by decide) (by decide) he pJ
theorem l6{x:Str}{T:String}(hg:Gl X x)(hm:X.mg x=none)(hv:bootBuiltins x=some (.type T))(hn:x≠"__name__":=by decide)(hd:(x==("__debug__":Str))=false:=by decide):PD X Xw (.Name x pos) (dC (.raw (.ty T))):=
 eW (v:= .ty T) (wz hg hm hv (show RelV (.ty T) (.type T) from rfl) hn hd) fun _=>rfl
def bools:List D→Option (List Bool)
 |[]=>some []
 | .bl b::r=>(bools r).map (b:: ·)
 |_=>none
def allM:List D→M D
 |[.lst ds]=>match bools ds with
  |some bs=>M.ret (.bl (bs.all id))
  |none=>M.stuck
 |_=>M.stuck
theorem lh{K:W.Frag}{F:Hp}:∀{ds:List D}{vs:List V}{bs:List Bool},bools ds=some bs→DenL K F ds vs→vs=bs.map V.bl
 |[],_,_,e,h=>by cases e;exact h
 | .bl b::r,_,_,e,⟨v,r',h1,h2,h3⟩=>by
   unfold bools at e
   cases q:bools r with
   |none=>rw[q] at e;cases e
   |some bs=>rw[q] at e;cases e;subst h1;rw[lh q h3,show v= .bl b from h2];rfl
 | .non::_,_,_,e,_=>by cases e
 | .int _::_,_,_,e,_=>by cases e
 | .str _::_,_,_,e,_=>by cases e
 | .raw _::_,_,_,e,_=>by cases e
 | .exc _::_,_,_,e,_=>by cases e
 | .scr _::_,_,_,e,_=>by cases e
 | .tup _::_,_,_,e,_=>by cases e
 | .lst _::_,_,_,e,_=>by cases e
theorem rC:∀{bs:List Bool}{aH:List Value},Vals (bs.map V.bl) aH→aH=bs.map Value.bool
 |[],_,r=>by cases r;rfl
 |b::bs,_,r=>by
  cases r with
  |cons r1 r2=>cases (show _=_ from r1);rw[rC r2];rfl
def CD:List V→Hp→VK→Prop:=fun xs H Q=>∃(a:Addr) (bs:List Bool),xs=[.ref a]∧H a=some (.lst (bs.map V.bl))∧Q (.bl (bs.all id)) H
theorem all_range{bs:List Bool}:(List.range bs.length).all (fun i=>bs.getD i false)=bs.all id:=by
 induction bs with
 |nil=>rfl
 |cons b bs ih=>
  rw[List.length_cons,List.range_succ_eq_map,List.all_cons,List.all_map,List.all_cons]
  congr 1
theorem rK(hc:X.calm=true):CallR X (.builtin "all") CD:=by
 intro pins s σ H xs us Q I r h
 obtain⟨a,bs,rfl,hH,q⟩:=h
 obtain⟨u,rfl,r1⟩:=vals1 r
 cases (show u=_ from r1)
 obtain⟨aH,r2,pl,hz⟩:=I.list (SqL.of (K:=X.K) hH)
 obtain rfl:=rC r2
 have nP:a≠s.heap.objs.size:=Nat.ne_of_lt (I.hok.lt hH)
 refine call_all_walk (wpAny_pyIter_list pl.isList ?_)
 refine⟨s.heap.objs.size,_,_,_,_,_,fun i=>bs.getD i false,rfl,Walks.list (A:=X.A.in1) (show X.A.in1.handled=none from I.ok.hd hc) s.heap.objs.size a nP (bs.map Value.bool).toArray,⟨⟨_,Heap.get?_push_size _ rfl,rfl,rfl⟩,Heap.IsList.at pl.isList fun o e=>Heap.get?_push_of_some _ e⟩,?_,fun h' tk k=>?_⟩
 ·intro i v s' Q' E' hv hq
  have hv:(bs.map Value.bool).toArray[i]? =some v:=hv
  rw[List.getElem?_toArray,List.getElem?_map] at hv
  cases q':bs[i]? with
  |none=>rw[q'] at hv;cases hv
  |some b=>
   rw[q'] at hv
   cases hv
   have:bs.getD i false=b:=by rw[List.getD_eq_getElem?_getD,q'];rfl
   have hq:Q' (bs.getD i false) s':=hq
   rw[this] at hq
   exact wpAny_truthy_bool hq
 ·have e:(List.range (bs.map Value.bool).toArray.size).all (fun i=>bs.getD i false)=bs.all id:=by
   rw[List.size_toArray,List.length_map];exact all_range
  rw[e]
  refine⟨.bl (bs.all id),H,I.kept (h':=h') (t':=tk) fun b o e'=>k b o (fun z=>?_) (Heap.get?_push_of_some _ e'),rfl,q⟩
  have z:b=s.heap.objs.size:=by simpa using z
  exact absurd (Heap.lt_size e') (by rw[z];exact Nat.lt_irrefl _)
theorem qm(hc:X.calm=true)(hg:Gl X "all")(hm:X.mg "all"=none)(hb:bootBuiltins "all"=some (.builtin "all"))(ha:kG X Xw [e] δs)(he:starEach [e] X.env=[(false,eval e X.env)]:=by rfl):PD X Xw (.Call (.Name "all" p) [e] [] pos) (dA allM δs):=
 eV (rK hc) (fun Xw F H vs ds Q s h w=>by
  unfold allM at w
  split at w
  ·rename_i ds
   obtain⟨v,rfl,h1⟩:=h.one
   obtain⟨a,ws,rfl,h2,h3,_⟩:=h1
   split at w
   ·rename_i bs hb
    exact⟨a,bs,rfl,by rw[←lh hb h3];exact s _ _ h2,WP.now w s rfl⟩
   ·exact w.elim
  ·exact w.elim) hg hm hb ha (by decide) (by decide) he rfl
end
section
variable{X:Cx}{Xw:Nat→Hp→Prop}{a b e e2:Expr}{es:List Expr}{δ δa δb:DE}{δs:DA}{pos p apos aP:Pos}
theorem wY{i:Nat}:∀F₀ H₀ D σ H,tS X.K Xw F₀ H₀ (u6 i δ) D σ H→vj (CL X.K "list" rn (k6 i) (vi (tD X.K Xw δ) zo)) D σ H:=fun F₀ H₀ D σ H ⟨F,ρ,s,w⟩=>by
 unfold u6 at w
 cases ho:sA ρ i with
 |none=>rw[ho] at w;exact w.elim
 |some ds=>
  rw[ho] at w
  have hi:=lU ho
  obtain⟨v,hv,a,o,rfl,hH,hF,vs,rfl,hd,hl⟩:=s.st.den i _ hi
  have w:WPS X.K Xw F₀ H₀ (δ ρ>>=fun d=>if ds.length<lim then M.ret (.nx (ρ.set i (some (.ow (.lst (ds++[d])))))) else M.stuck) D:=w
  refine⟨.ref a,hv, .inl ⟨rfl,vs,SqL.of hH⟩,F,ρ,s.st,?_⟩
  rcases(δ ρ).cs with q | ⟨n,q⟩ | ⟨d,q⟩
  ·rw[q] at w;exact w.elim
  ·rw[q] at w⊢;exact fun F' H' e'=>w F' H' (s.ext.trans e')
  ·rw[q] at w⊢
   intro u H1 F1 e1 hq
   have w:WPS X.K Xw F₀ H₀ (if ds.length<lim then M.ret (.nx (ρ.set i (some (.ow (.lst (ds++[d])))))) else M.stuck) D:=w
   split at w
   ·rename_i lG
    have hlen:=hd.len
    refine⟨a,vs,u,rfl,rfl,e1.hh _ _ hH,by have:=cj;omega,?_⟩
    exact w σ F1 _ ((s.ext' e1).chg (c₀:= .lst (ds++[d])) hi hv ⟨_,rfl,DenL.append (DenL.mono e1.ff hd) (.cons hq .nil),by rw[List.length_append];exact lG⟩)
   ·exact w.elim
theorem wZ{i:Nat}:∀F₀ H₀ D σ H,tS X.K Xw F₀ H₀ (u7 i δ) D σ H→vj (CL X.K "list" ro (k6 i) (vi (tD X.K Xw δ) zo)) D σ H:=fun F₀ H₀ D σ H ⟨F,ρ,s,w⟩=>by
 unfold u7 at w
 cases ho:sA ρ i with
 |none=>rw[ho] at w;exact w.elim
 |some ds=>
  rw[ho] at w
  have hi:=lU ho
  obtain⟨v,hv,a,o,rfl,hH,hF,vs,rfl,hd,hl⟩:=s.st.den i _ hi
  have w:WPS X.K Xw F₀ H₀ (δ ρ>>=fun d=>lstM d>>=fun es=>if ds.length+es.length≤lim then M.ret (.nx (ρ.set i (some (.ow (.lst (ds++es)))))) else M.stuck) D:=w
  refine⟨.ref a,hv, .inl ⟨rfl,vs,SqL.of hH⟩,F,ρ,s.st,?_⟩
  rcases(δ ρ).cs with q | ⟨n,q⟩ | ⟨d,q⟩
  ·rw[q] at w;exact w.elim
  ·rw[q] at w⊢;exact fun F' H' e'=>w F' H' (s.ext.trans e')
  ·rw[q] at w⊢
   intro u H1 F1 e1 hq
   cases d with
   |lst es=>
    obtain⟨b,ws,rfl,k2,k3,k4⟩:=hq
    have w:WPS X.K Xw F₀ H₀ (if ds.length+es.length≤lim then M.ret (.nx (ρ.set i (some (.ow (.lst (ds++es)))))) else M.stuck) D:=w
    split at w
    ·rename_i lG
     have hlen:=hd.len
     have Dp:=k3.len
     refine⟨a,b,vs,ws,rfl,rfl,e1.hh _ _ hH,e1.fh _ _ k2,by have:=cj;omega,?_⟩
     exact w σ F1 _ ((s.ext' e1).chg (c₀:= .lst (ds++es)) hi hv ⟨_,rfl,DenL.append (DenL.mono e1.ff hd) k3,by rw[List.length_append];exact lG⟩)
    ·exact w.elim
   |_=>exact w.elim
theorem wJ{i:Nat}{x:Str}(hv:PE X (.Name x p) (k6 i))(he:PD X Xw e δ)(hs:swapsWith (.Call (.Attribute (.Name x p) "append" apos) [e] [] aP) none pos.line X.env=pure false:=by rfl)
 (eL:attributeBase (.Name x p) "append" X.env (eval (.Name x p) X.env)=eval (.Name x p) X.env:=by rfl)
 (jH:((backTo aP (starEach [e] X.env)).all (fun x=>!x.1)&&(backToKw aP (keywordEach [] X.env)).all (fun x=>x.1.isSome)&&decide ([e].length+([]:List Keyword).length+(if ([]:List Keyword).isEmpty then 0 else 1)<30))=true:=by rfl)
 (eM:(apos.endLine==aP.line)=true:=by rfl)(rT:starEach [e] X.env=[(false,eval e X.env)]:=by rfl):eB X Xw (.Expr (.Call (.Attribute (.Name x p) "append" apos) [e] [] aP) pos) (u6 i δ):=fun F₀ H₀=>
 PS.weak (mY (uH PySem.F.plainAttrs_list PySem.F.slot_list_append PySem.F.type_list_append lM hv (mS he mT rT) eL jH eM rT rfl) hs) fun D σ H w=>wY F₀ H₀ D σ H w
theorem wK{i:Nat}{x:Str}(hv:PE X (.Name x p) (k6 i))(he:PD X Xw e δ)(hs:swapsWith (.Call (.Attribute (.Name x p) "extend" apos) [e] [] aP) none pos.line X.env=pure false:=by rfl)
 (eL:attributeBase (.Name x p) "extend" X.env (eval (.Name x p) X.env)=eval (.Name x p) X.env:=by rfl)
 (jH:((backTo aP (starEach [e] X.env)).all (fun x=>!x.1)&&(backToKw aP (keywordEach [] X.env)).all (fun x=>x.1.isSome)&&decide ([e].length+([]:List Keyword).length+(if ([]:List Keyword).isEmpty then 0 else 1)<30))=true:=by rfl)
 (eM:(apos.endLine==aP.line)=true:=by rfl)(rT:starEach [e] X.env=[(false,eval e X.env)]:=by rfl):eB X Xw (.Expr (.Call (.Attribute (.Name x p) "extend" apos) [e] [] aP) pos) (u7 i δ):=fun F₀ H₀=>
 PS.weak (mY (uH PySem.F.plainAttrs_list PySem.F.slot_list_extend PySem.F.type_list_extend sf hv (mS he mT rT) eL jH eM rT rfl) hs) fun D σ H w=>wZ F₀ H₀ D σ H w
theorem ux:OpR X (binaryOp .Add) (fun x y H Q=>∃a b ys,x= .ref a∧y= .ref b∧SqT X.K H a []∧SqT X.K H b ys∧Q (.ref b) H):=by
 intro pins s σ H x y v u Q I rx ry h
 obtain⟨a,b,ys,rfl,rfl,ha,hb,q⟩:=h
 cases rx
 cases ry
 obtain⟨aH,r1,p1,_⟩:=I.tuple ha
 obtain⟨dR,r2,p2,_⟩:=I.tuple hb
 cases r1
 obtain⟨⟨cls,dd,data,sl⟩,ho,hc,n,hd⟩:=id p1
 obtain⟨⟨BC,A8,data2,Bm⟩,yn,yg,n2,hd2⟩:=id p2
 simp only at hc hd yg hd2
 subst hc hd yg hd2
 exact concat_meets ⟨_,ho,rfl⟩ ⟨_,yn,rfl⟩ noFill_tuple_add seq_tuple_add PySem.F.slot_tuple_add PySem.F.entry_tuple_add (PySem.F.args_tuple_add_2 _ _)
  (tuple_addW0 a b _ _ n n2 dd A8 sl Bm (by simp)) ⟨ho,yn,⟨.ref b,H,I,rfl,q⟩⟩
def oq:D→D→M D
 | .tup x, .tup y=>if x.length+y.length≤lim then M.ret (.tup (x++y)) else M.stuck
 |_,_=>M.stuck
theorem wo(ha:PD X Xw a δa)(hb:PD X Xw b δb):PD X Xw (.BinOp a .Add b pos) (d2 oq δa δb):=iX (ux.or v7) (fun Xw F H x y dx dy Q s hx hy w=>by
 unfold oq at w
 split at w
 ·rename_i i j
  obtain⟨a,vs,h1,h2,h3,h4⟩:=hx
  obtain⟨a',w9,k1,k2,k3,k4⟩:=hy
  split at w
  ·rename_i hl
   have e1:=h3.len
   have e2:=k3.len
   have:=cj
   by_cases hv:vs=[]
   ·subst hv
    have:i=[]:=by cases i with | nil=>rfl | cons _ _=>simp at e1
    subst this
    exact .inl ⟨a,a',w9,h1,k1,SqT.of (s _ _ h2),SqT.of (s _ _ k2),WP.now w s ⟨a',w9,k1▸rfl,k2,k3,k4⟩⟩
   ·refine .inr ⟨a,a',vs,w9,h1,k1,SqT.of (s _ _ h2),SqT.of (s _ _ k2),hv,by omega,fun z=>?_,fun z p hp=>?_⟩
    ·subst z
     have:j=[]:=by cases j with | nil=>rfl | cons _ _=>simp at e2
     subst this
     rw[List.append_nil] at w
     exact WP.now w s ⟨a,vs,rfl,h2,h3,h4⟩
    ·exact WP.fin w (Ext.lay s hp) ⟨p,_,rfl,ax,DenL.mono (Ext.lay s hp).ff (h3.append k3),by rw[List.length_append];exact hl⟩
  ·exact w.elim
 ·exact w.elim) ha hb
end
section
variable{X:Cx}{Xw:Nat→Hp→Prop}{a b e e2 o:Expr}{es:List Expr}{δ δa δb δo:DE}{δs:DA}{pos p apos aP:Pos}
def dM(kd:D→Bool)(g:D→List D→M D)(o:DE)(s:DA):DE:=fun ρ=>o ρ>>=fun d=>if kd d then s ρ>>=fun ds=>g d ds else M.stuck
theorem xH{T:String}{name:Str}{id:String}{r:V→List V→Hp→VK→Prop}{kd:D→Bool}{g:D→List D→M D}(pa:PlainAttrs T)(slot:Slot T name id)(Cf:typeOf (.builtin id)=pure (.type "method_descriptor"))(hm:A4 X id r)
 (hk:∀(F H:Hp) (x:V) (d:D),kd d=true→Same F H→Den X.K F d x→Bq X.K T x H)
 (hd:∀(Xw:Nat→Hp→Prop) (F H:Hp) (x:V) (vs:List V) (d:D) (ds:List D) (Q:VK),Same F H→Den X.K F d x→DenL X.K F ds vs→WP X.K Xw F H (g d ds) Q→r x vs H Q)
 (ho:PD X Xw o δo)(ha:kG X Xw (e::es) δs)
 (eL:attributeBase o name X.env (eval o X.env)=eval o X.env:=by rfl)
 (jH:((backTo aP (starEach (e::es) X.env)).all (fun x=>!x.1)&&(backToKw aP (keywordEach [] X.env)).all (fun x=>x.1.isSome)
  &&decide ((e::es).length+([]:List Keyword).length+(if ([]:List Keyword).isEmpty then 0 else 1)<30))=true:=by rfl)
 (eM:(apos.endLine==aP.line)=true:=by rfl) (hs:starEach (e::es) X.env=(false,eval e X.env)::starEach es X.env:=by rfl) (pZ:(backTo aP (starEach es X.env)).any (·.1)=false:=by rfl):
 PD X Xw (.Call (.Attribute o name apos) (e::es) [] aP) (dM kd g δo δs):=PE.weak (uH pa slot Cf hm ho ha eL jH eM hs pZ) fun σ H Q ⟨F,ρ,s,w⟩=>by
 refine⟨F,ρ,s,WP.mono (WP.bind w) fun v H1 ⟨F1,d,e1,q1,w1⟩=>?_⟩
 split at w1
 ·rename_i Eo
  refine⟨hk F1 H1 v d Eo e1.fh q1,F1,ρ,s.ext e1,WPL.mono (WP.bindL w1) fun vs H2 ⟨F2,ds,e2,q2,w2⟩=>?_⟩
  exact hd Xw F2 H2 v vs d ds Q e2.fh (Den.mono e2.ff q1) q2 w2
 ·exact w1.elim
def jL:D→Bool
 | .str _=>true
 |_=>false
theorem tY{K:W.Frag}(F H:Hp)(x:V)(d:D)(h:jL d=true)(s:Same F H)(q:Den K F d x):Bq K "str" x H:=by
 cases d with
 |str z=>cases (show _=_ from q.1);exact rfl
 |_=>cases h
def gc:List D→Option (List Str)
 |[]=>some []
 | .str x::r=>(gc r).map (x:: ·)
 |_=>none
theorem ky{K:W.Frag}{F:Hp}:∀{ds:List D}{vs:List V}{xs:List Str},gc ds=some xs→DenL K F ds vs→vs=xs.map V.str
 |[],_,_,e,h=>by cases e;exact h
 | .str b::r,_,_,e,⟨v,r',h1,h2,h3⟩=>by
   unfold gc at e
   cases q:gc r with
   |none=>rw[q] at e;cases e
   |some bs=>rw[q] at e;cases e;subst h1;rw[ky q h3,show v= .str b from h2.1];rfl
 | .non::_,_,_,e,_=>by cases e
 | .int _::_,_,_,e,_=>by cases e
 | .bl _::_,_,_,e,_=>by cases e
 | .raw _::_,_,_,e,_=>by cases e
 | .exc _::_,_,_,e,_=>by cases e
 | .scr _::_,_,_,e,_=>by cases e
 | .tup _::_,_,_,e,_=>by cases e
 | .lst _::_,_,_,e,_=>by cases e
theorem kB:∀{xs:List Str}{aH:List Value},Vals (xs.map V.str) aH→StrsAre aH xs
 |[],_,r=>by cases r;exact .nil
 |b::bs,_,r=>by
  cases r with
  |cons r1 r2=>obtain⟨t,rfl⟩:=r1;exact .cons b t (kB r2)
def bX:List Str→Str
 |[]=>⟨#[]⟩
 |x::r=>x++bX r
def joinM:D→List D→M D
 | .str sep,[.lst ds]=>match gc ds with
   |some xs=>if sep.length=0∧(xs.map (·.length)).sum≤lim then M.ret (.str (bX xs)) else M.stuck
   |none=>M.stuck
 | .str sep,[.tup ds]=>match gc ds with
   |some xs=>if sep.length=0∧(xs.map (·.length)).sum≤lim then M.ret (.str (bX xs)) else M.stuck
   |none=>M.stuck
 |_,_=>M.stuck
theorem jx:∀xs:List Str,(bX xs).length=(xs.map (·.length)).sum
 |[]=>rfl
 |x::r=>by
  show (x++bX r).length=_
  rw[da,jx r,List.map_cons,List.sum_cons]
theorem rA{x:Str}(h:x.length=0):x=⟨#[]⟩:=by
 obtain⟨⟨l⟩⟩:=x
 have:l.length=0:=h
 cases l with
 |nil=>rfl
 |cons _ _=>simp at this
theorem iY(x:Str):x++(⟨#[]⟩:Str)=x:=by
 obtain⟨c⟩:=x
 show (⟨c++ #[]⟩:Str)=⟨c⟩
 simp
theorem iF(sep:Str)(h:sep.length=0):∀xs:List Str,Txt.join sep xs=bX xs:=by
 have e:=rA h
 subst e
 intro xs
 show Builtin.Str.glued _ xs=_
 rw[StrLaws.glued_eq_join]
 induction xs with
 |nil=>rfl
 |cons x r ih=>
  cases r with
  |nil=>show x=x++(⟨#[]⟩:Str);rw[iY]
  |cons y r=>show x++(⟨#[]⟩:Str)++Str.join _ (y::r)=x++bX (y::r);rw[iY,ih]
def rJoin(K:W.Frag):V→List V→Hp→VK→Prop:=fun x vs H Q=>∃(sep:Str) (a:Addr) (xs:List Str),x= .str sep∧vs=[.ref a]∧(H a=some (.lst (xs.map V.str))∨H a=some (.tup (xs.map V.str)))∧sep.length=0∧(xs.map (·.length)).sum≤lim∧Q (.str (bX xs)) H
theorem vZ:A4 X "str.join" (rJoin X.K):=by
 intro pins s σ H x vs v us Q I rx rv h
 obtain⟨sep,a,xs,rfl,rfl,hH,hs,hl,q⟩:=h
 obtain⟨t,rfl⟩:=rx
 obtain⟨u,rfl,r1⟩:=rv.one
 cases (show u=_ from r1)
 have hok:(xs.map (·.length)).sum+xs.length*sep.length≤16777216:=by
  rw[hs,Nat.mul_zero]
  unfold lim at hl
  omega
 rcases hH with hH | hH
 ·obtain⟨aH,r2,pl,hz⟩:=I.list (SqL.of (K:=X.K) hH)
  refine join_list pl.isList (by simpa using kB r2) hok fun t' k=>⟨.str (bX xs),H,I.tok k,⟨t',by rw[iF sep hs]⟩,q⟩
 ·obtain⟨aH,r2,pl,hz⟩:=I.tuple (SqT.of (K:=X.K) hH)
  refine join_tuple pl (by simpa using kB r2) hok fun t' k=>⟨.str (bX xs),H,I.tok k,⟨t',by rw[iF sep hs]⟩,q⟩
theorem gG(ho:PD X Xw o δo)(ha:kG X Xw [e] δs)(eL:attributeBase o "join" X.env (eval o X.env)=eval o X.env:=by rfl)
 (jH:((backTo aP (starEach [e] X.env)).all (fun x=>!x.1)&&(backToKw aP (keywordEach [] X.env)).all (fun x=>x.1.isSome)&&decide ([e].length+([]:List Keyword).length+(if ([]:List Keyword).isEmpty then 0 else 1)<30))=true:=by rfl)
 (eM:(apos.endLine==aP.line)=true:=by rfl)(rT:starEach [e] X.env=[(false,eval e X.env)]:=by rfl):PD X Xw (.Call (.Attribute o "join" apos) [e] [] aP) (dM jL joinM δo δs):=
 xH PySem.F.plainAttrs_str PySem.F.slot_str_join PySem.F.type_str_join vZ tY (fun Xw F H x vs d ds Q s hx hv w=>by
  unfold joinM at w
  split at w
  ·rename_i sep ds
   obtain⟨v,rfl,h1⟩:=hv.one
   obtain⟨a,ws,rfl,h2,h3,_⟩:=h1
   split at w
   ·rename_i xs Ci
    split at w
    ·rename_i hc
     exact⟨sep,a,xs,hx.1,rfl, .inl (by rw[←ky Ci h3];exact s _ _ h2),hc.1,hc.2,WP.now w s ⟨rfl,by rw[jx];exact hc.2⟩⟩
    ·exact w.elim
   ·exact w.elim
  ·rename_i sep ds
   obtain⟨v,rfl,h1⟩:=hv.one
   obtain⟨a,ws,rfl,h2,h3,_⟩:=h1
   split at w
   ·rename_i xs Ci
    split at w
    ·rename_i hc
     exact⟨sep,a,xs,hx.1,rfl, .inr (by rw[←ky Ci h3];exact s _ _ h2),hc.1,hc.2,WP.now w s ⟨rfl,by rw[jx];exact hc.2⟩⟩
    ·exact w.elim
   ·exact w.elim
  ·exact w.elim) ho ha eL jH eM rT rfl
def pA:List D→M D
 |[.lst ds]=>M.ret (.tup ds)
 |[.tup ds]=>M.ret (.tup ds)
 |_=>M.stuck
theorem o4(hg:Gl X "tuple")(hm:X.mg "tuple"=none)(hb:bootBuiltins "tuple"=some (.type "tuple"))(ha:kG X Xw [e] δs)(he:starEach [e] X.env=[(false,eval e X.env)]:=by rfl):PD X Xw (.Call (.Name "tuple" p) [e] [] pos) (dA pA δs):=
 il kH (fun Xw F H vs ds Q s h w=>by
  unfold pA at w
  split at w
  ·rename_i ds
   obtain⟨v,rfl,h1⟩:=h.one
   obtain⟨a,ws,rfl,h2,h3,h4⟩:=h1
   exact⟨a,ws,rfl, .inl ⟨SqL.of (s _ _ h2),fun l hl=>WP.fin w (Ext.lay s hl) ⟨l,ws,rfl,ax,DenL.mono (Ext.lay s hl).ff h3,h4⟩⟩⟩
  ·rename_i ds
   obtain⟨v,rfl,h1⟩:=h.one
   obtain⟨a,ws,rfl,h2,h3,h4⟩:=h1
   exact⟨a,ws,rfl, .inr ⟨SqT.of (s _ _ h2),WP.now w s ⟨a,ws,rfl,h2,h3,h4⟩⟩⟩
  ·exact w.elim) hg hm hb ha (by decide) (by decide) he rfl
def nums:List D→Option (List Int)
 |[]=>some []
 | .int x::r=>(nums r).map (x:: ·)
 |_=>none
theorem oC{K:W.Frag}{F:Hp}:∀{ds:List D}{vs:List V}{xs:List Int},nums ds=some xs→DenL K F ds vs→vs=xs.map V.int
 |[],_,_,e,h=>by cases e;exact h
 | .int b::r,_,_,e,⟨v,r',h1,h2,h3⟩=>by
   unfold nums at e
   cases q:nums r with
   |none=>rw[q] at e;cases e
   |some bs=>rw[q] at e;cases e;subst h1;rw[oC q h3,show v= .int b from h2];rfl
 | .non::_,_,_,e,_=>by cases e
 | .str _::_,_,_,e,_=>by cases e
 | .bl _::_,_,_,e,_=>by cases e
 | .raw _::_,_,_,e,_=>by cases e
 | .exc _::_,_,_,e,_=>by cases e
 | .scr _::_,_,_,e,_=>by cases e
 | .tup _::_,_,_,e,_=>by cases e
 | .lst _::_,_,_,e,_=>by cases e
def eJ(neg:Bool):D→D→M D
 | .str x, .str y=>M.ret (.bl (if neg then !(!(Builtin.Str.occurrences y x 0 y.length 1).isEmpty) else !(Builtin.Str.occurrences y x 0 y.length 1).isEmpty))
 |_,_=>M.stuck
theorem yN(ha:PD X Xw a δa)(hb:PD X Xw b δb)(hm:behindInMarks .In b=false:=by rfl):PD X Xw (.Compare a [.In] [b] pos) (d2 (eJ false) δa δb):=qo lS (fun Xw F H x y dx dy Q s hx hy w=>by
 unfold eJ at w
 split at w
 ·exact⟨_,_,hx.1,hy.1,WP.now w s rfl⟩
 ·exact w.elim) ha hb hm
theorem y9(ha:PD X Xw a δa)(hb:PD X Xw b δb)(hm:behindInMarks .In b=false:=by rfl):nS X Xw (.Compare a [.In] [b] pos) (eu (d2 (eJ false) δa δb)):=gL lS (fun Xw F H x y dx dy Q s hx hy w=>by
 unfold eJ at w
 split at w
 ·exact⟨_,_,hx.1,hy.1,WP.now w s rfl⟩
 ·exact w.elim) ha hb hm
end
end L3
namespace L3
open PySem PySem.Spec L2 SeqAt HT
open PyProof.Rows hiding St
section
variable{prog:Program}{w:World}{A:Around}{E:Value→Shared→Prop}{s:Shared}
theorem fE{t sl:Addr}{items:Array Value}{vl vu:Value}{lo hi:Option Int}{Q:Value→Shared→Prop}(ht:IsTup s.heap t items)(hs:s.heap.IsSliceOf sl vl vu .none)(pl:IsPart vl lo)(pu:IsPart vu hi)
 (hw:sIx items.size 0 lo=0∧sIx items.size items.size hi=items.size)(h:Q (.ref t) s):wpAny (model prog w) A (getItem (.ref t) (.ref sl)) Q E s:=by
 obtain⟨os,tV,Bb,xq⟩:=id hs
 have BO:s.TypeIs (.ref sl) "slice":=⟨os,tV,Bb⟩
 unfold getItem
 try with_reducible refine wpAny_holding ?_
 first | refine wpAny_bind (wpAny_pure ?_) | skip
 refine wpAny_bind (wpAny_sequenceKey ht.typeIs (by decide) ?_)
 refine wpAny_bind (wpAny_callSpecial?_slot (name:=Str.ofString "__getitem__") ht.typeIs PyProof.Rows.slot_tuple_getitem
  (wpAny_call_entry PyProof.Rows.slot_tuple_getitem ht.typeIs entry_tuple_getitem ?_ (args_tuple_getitem _ _)))
 show wpAny _ _ (Builtin.Tuple.tupleItemsOf (.ref t)>>=_) _ _ s
 refine wpAny_bind (tupleItemsOf_ ht ?_)
 refine wpAny_bind (wpAny_typeOf BO ?_)
 rw[if_pos (by decide)]
 refine wpAny_bind (sliceApplied_gen hs pl pu ?_)
 have yl:((((sIx items.size 0 lo:Nat):Int)==0&&(1:Int)==1&&(sIx items.size items.size hi - sIx items.size 0 lo)==items.size)=true):=by
  rw[hw.1,hw.2]
  simp
 show wpAny _ _ (if (((sIx items.size 0 lo:Nat):Int)==0&&(1:Int)==1&&(sIx items.size items.size hi - sIx items.size 0 lo)==items.size)=true then _ else _) _ _ s
 rw[if_pos yl]
 refine wpAny_bind ?_
 unfold Builtin.Tuple.tupleIsExact
 refine wpAny_bind (wpAny_typeOf ht.typeIs (wpAny_pure ?_))
 rw[if_pos (by decide)]
 exact wpAny_bind (wpAny_rule (wpAny_pure ⟨_,rfl,wpAny_pure h⟩))
end
section
variable{X:Cx}{Xw:Nat→Hp→Prop}{a b e:Expr}{lo hi:Option Expr}{δ δa δb:DE}{pos p p2:Pos}
theorem wX:SlR X (fun x lo hi H Q=>∃a xs,x= .ref a∧SqT X.K H a xs∧(sIx xs.length 0 lo=0∧sIx xs.length xs.length hi=xs.length)∧Q (.ref a) H):=by
 intro pins s σ H x v vl vu lo hi sl Q I rx hs pl pu h
 obtain⟨a,xs,rfl,hx,hw,q⟩:=h
 cases rx
 obtain⟨aH,r,ht,hz⟩:=I.tuple hx
 have hlen:aH.toArray.size=xs.length:=by rw[List.size_toArray];exact r.length.symm
 exact⟨"tuple",_,PyProof.Rows.slot_tuple_getitem.lookup,ht.typeIs,fE ht hs pl pu (by rw[hlen];exact hw) ⟨.ref a,H,I,rfl,q⟩⟩
theorem zh:SlR X (fun x lo hi H Q=>∃z:Str,x= .str z∧z.length≤lim∧Q (.str (Txt.slice z lo hi)) H):=by
 intro pins s σ H x v vl vu lo hi sl Q I rx hs pl pu h
 obtain⟨z,rfl,hl,q⟩:=h
 obtain⟨t,rfl⟩:=rx
 have hz:z.length≤sizeLine:=by have:=cj;omega
 cases pl with
 |none=>
  cases pu with
  |none=>exact⟨"str",_,PySem.F.slot_str_getitem.lookup,typeIs_str _ _ _,wpAny_getItem_str_slice (l:=none) (u:=none) (st:=none) hs rfl (post_val_or_str ⟨Nat.le_trans (Txt.slice_le z _ _) hz,fun t' k=>⟨.str _,H,I.tok k,⟨t',rfl⟩,q⟩⟩)⟩
  |int j uj=>exact⟨"str",_,PySem.F.slot_str_getitem.lookup,typeIs_str _ _ _,wpAny_getItem_str_slice (l:=none) (u:=some (j,uj)) (st:=none) hs rfl (post_val_or_str ⟨Nat.le_trans (Txt.slice_le z _ _) hz,fun t' k=>⟨.str _,H,I.tok k,⟨t',rfl⟩,q⟩⟩)⟩
 |int i ui=>
  cases pu with
  |none=>exact⟨"str",_,PySem.F.slot_str_getitem.lookup,typeIs_str _ _ _,wpAny_getItem_str_slice (l:=some (i,ui)) (u:=none) (st:=none) hs rfl (post_val_or_str ⟨Nat.le_trans (Txt.slice_le z _ _) hz,fun t' k=>⟨.str _,H,I.tok k,⟨t',rfl⟩,q⟩⟩)⟩
  |int j uj=>exact⟨"str",_,PySem.F.slot_str_getitem.lookup,typeIs_str _ _ _,wpAny_getItem_str_slice (l:=some (i,ui)) (u:=some (j,uj)) (st:=none) hs rfl (post_val_or_str ⟨Nat.le_trans (Txt.slice_le z _ _) hz,fun t' k=>⟨.str _,H,I.tok k,⟨t',rfl⟩,q⟩⟩)⟩
abbrev DO:=aT→M (Option Int)
def WPO(Xw:Nat→Hp→Prop)(F H:Hp)(m:M (Option Int))(Q:Option Int→Hp→Prop):Prop:=
 match m with
 |none=>False
 |some (.ok b)=>∀H' F',Ext F H F' H'→Q b H'
 |some (.ex n)=>∀F' H',Ext F H F' H'→Xw n H'
def EW(K:W.Frag)(Xw:Nat→Hp→Prop)(δ:DO):TO:=fun σ H Q=>∃F ρ,StE K F H σ ρ∧WPO Xw F H (δ ρ) Q
def A5(X:Cx)(Xw:Nat→Hp→Prop)(e:Option Expr)(δ:DO):Prop:=PO X e (EW X.K Xw δ)
def oN:DO:=fun _=>M.ret none
def oS(δ:DE):DO:=fun ρ=>δ ρ>>=fun d=>match d with | .int i=>M.ret (some i) | _=>M.stuck
theorem o5:A5 X Xw none oN:=fun pins s σ H Q I ⟨F,ρ,S,w⟩=>wG pins s σ H Q I (w H F (Ext.refl S.fh))
theorem dW(h:PD X Xw e δ):A5 X Xw (some e) (oS δ):=fun pins s σ H Q I ⟨F,ρ,S,w⟩=>wH h pins s σ H Q I ⟨F,ρ,S,by
 have w:WPO Xw F H (δ ρ>>=fun d=>match d with | .int i=>M.ret (some i) | _=>M.stuck) Q:=w
 rcases(δ ρ).cs with q | ⟨n,q⟩ | ⟨d,q⟩
 ·rw[q] at w;exact w.elim
 ·rw[q] at w⊢;exact w
 ·rw[q] at w⊢
  intro v H' F' e' hd
  cases d with
  |int i=>exact⟨i,hd,w H' F' e'⟩
  |_=>exact w.elim⟩
theorem WP.bindO{K:W.Frag}{Xw:Nat→Hp→Prop}{F H:Hp}{Q:VK}{m:M (Option Int)}{k:Option Int→M D}(h:WP K Xw F H (m>>=k) Q):WPO Xw F H m fun b H1=>∃F1,Ext F H F1 H1∧WP K Xw F1 H1 (k b) Q:=by
 match m,h with
 |none,h=>exact h
 |some (.ok d),h=>exact fun H2 F2 e2=>⟨F2,e2,WP.ext e2 (show WP K Xw F H (k d) Q from h)⟩
 |some (.ex n),h=>exact h
theorem WPO.mono{Xw:Nat→Hp→Prop}{F H:Hp}{m:M (Option Int)}{Q Q':Option Int→Hp→Prop}(h:WPO Xw F H m Q)(k:∀v H',Q v H'→Q' v H'):WPO Xw F H m Q':=by
 match m,h with
 |none,h=>exact h
 |some (.ok d),h=>exact fun H2 F2 e2=>k _ _ (h H2 F2 e2)
 |some (.ex n),h=>exact h
def cutD(ds:List D)(lo hi:Option Int):List D:=(ds.drop (sIx ds.length 0 lo)).take (sIx ds.length ds.length hi - sIx ds.length 0 lo)
def DH:D→Option Int→Option Int→M D
 | .tup ds,lo,hi=>M.ret (.tup (cutD ds lo hi))
 | .lst ds,lo,hi=>M.ret (.lst (cutD ds lo hi))
 | .str x,lo,hi=>M.ret (.str (Txt.slice x lo hi))
 |_,_,_=>M.stuck
def pU(a:DE)(lo hi:DO):DE:=fun ρ=>a ρ>>=fun d=>lo ρ>>=fun l=>hi ρ>>=fun h=>DH d l h
theorem n5(ds:List D)(lo hi:Option Int):(cutD ds lo hi).length≤ds.length:=by
 unfold cutD
 rw[List.length_take,List.length_drop]
 omega
theorem DenL.cut{K:W.Frag}{F:Hp}{ds:List D}{vs:List V}(h:DenL K F ds vs)(lo hi:Option Int):DenL K F (cutD ds lo hi) (n6 vs lo hi):=by
 unfold cutD n6
 rw[h.len]
 exact(h.drop _).take _
theorem ri{δo:DE}{κl κh:DO}(he:PD X Xw e δo)(hl:A5 X Xw lo κl)(hh:A5 X Xw hi κh):PD X Xw (.Subscript e (.Slice lo hi none p2) pos) (pU δo κl κh):=
 PE.weak (uO (wX.or (zi.or (wW.or zh))) he hl hh) fun σ H Q ⟨F,ρ,s,w⟩=>by
  refine⟨F,ρ,s,WP.mono (WP.bind w) fun v H1 ⟨F1,d,e1,q1,w1⟩=>?_⟩
  refine⟨F1,ρ,s.ext e1,WPO.mono (WP.bindO w1) fun l H2 ⟨F2,e2,w2⟩=>?_⟩
  refine⟨F2,ρ,(s.ext e1).ext e2,WPO.mono (WP.bindO w2) fun h H3 ⟨F3,e3,w3⟩=>?_⟩
  have q3:=Den.mono (e2.ff.trans e3.ff) q1
  have fh:=e3.fh
  cases d with
  |tup ds=>
   obtain⟨a,vs,rfl,h2,h3,h4⟩:=q3
   by_cases hw:sIx vs.length 0 l=0∧sIx vs.length vs.length h=vs.length
   ·refine .inl ⟨a,vs,rfl,SqT.of (fh _ _ h2),hw,?_⟩
    have hc:cutD ds l h=ds:=by
     unfold cutD
     rw[h3.len,hw.1,hw.2,Nat.sub_zero,List.drop_zero,←h3.len,List.take_length]
    have w3:WP X.K Xw F3 H3 (M.ret (.tup (cutD ds l h))) Q:=w3
    rw[hc] at w3
    exact WP.now w3 fh ⟨a,vs,rfl,h2,h3,h4⟩
   ·exact .inr (.inl ⟨a,vs,rfl,SqT.of (fh _ _ h2),hw,fun p hp=>WP.fin w3 (Ext.lay fh hp) ⟨p,_,rfl,ax,DenL.mono (Ext.lay fh hp).ff (h3.cut l h),Nat.le_trans (n5 _ _ _) h4⟩⟩)
  |lst ds=>
   obtain⟨a,vs,rfl,h2,h3,h4⟩:=q3
   exact .inr (.inr (.inl ⟨a,vs,rfl,SqL.of (fh _ _ h2),fun p hp=>WP.fin w3 (Ext.lay fh hp) ⟨p,_,rfl,ax,DenL.mono (Ext.lay fh hp).ff (h3.cut l h),Nat.le_trans (n5 _ _ _) h4⟩⟩))
  |str x=>exact .inr (.inr (.inr ⟨x,q3.1,q3.2,WP.now w3 fh ⟨rfl,Nat.le_trans (Txt.slice_le x _ _) q3.2⟩⟩))
  |_=>exact w3.elim
end
section
variable{prog:Program}{w:World}{A:Around}{E:Value→Shared→Prop}{s:Shared}
end
section
variable{X:Cx}{Xw:Nat→Hp→Prop}{a b e:Expr}{δ δa δb:DE}{pos p p2:Pos}
end
def A3(x:Str):It:=⟨fun i _=>i<x.cps.size,fun i H v H'=>H'=H∧∃c,x.cps[i]? =some c∧v= .str ⟨#[c]⟩,fun i _=>x.cps.size≤i⟩
theorem sN{P:Program}{w:World}{K:W.Frag}{tg:Expr}(it:Addr)(x:Str)(t:Tok):Turn P w K tg (A3 x) [it] it (fun i h=>i≤x.cps.size∧h.IsStrIter it "str_ascii_iterator" x t i) where
 mem:=by simp
 obj:=fun i h st b hb=>by
  have e:b=it:=by simpa using hb
  subst e
  obtain⟨_,o,e,c,d⟩:=st
  exact⟨o,e,fun v z=>by rw[d] at z;cases z⟩
 keep:=fun i h h' st k=>⟨st.1,let ⟨o,e,r⟩:=st.2;⟨o,k it (by simp) o e,r⟩⟩
 item:=by
  intro X hP hw hK hc i pins s σ H E I hf st hg
  subst hP hw hK
  obtain⟨f0,f1,f2,f3,f4,f5⟩:=hf it (by simp)
  have hi:i<x.cps.size:=hg
  refine(Walks.strAscii (prog:=X.prog) (w:=X.w) (I.ok.hd hc) it x t).item i s _ _ hi st.2 fun v h' tk hv pj kk=>?_
  obtain⟨c,u,BX,rfl⟩:=hv
  have I1:Inv X pins σ H {s with heap:=h',toks:=tk}:=I.turned (fun b o hb e=>kk b o (by simpa using hb) e) f0 f1 f3 f4 f5
  obtain⟨o,e,cc,dd⟩:=id pj
  exact⟨_,rfl,oy (s:={s with heap:=h',toks:=tk}) e cc dd (by decide) ⟨.str ⟨#[c]⟩,H,I1,⟨u,rfl⟩,⟨rfl,c,BX,rfl⟩,⟨hi,pj⟩,fun b hb=>(hf b hb).1⟩⟩
 done:=by
  intro X hP hw hK hc i pins s σ H E I hf st hg
  subst hP hw hK
  obtain⟨f0,f1,f2,f3,f4,f5⟩:=hf it (by simp)
  have hi:i=x.cps.size:=Nat.le_antisymm st.1 hg
  subst hi
  exact(Walks.strAscii (prog:=X.prog) (w:=X.w) (I.ok.hd hc) it x t).done s _ _ st.2 fun h' tk kk=>⟨rfl,I.turned (fun b o hb e=>kk b o (by simpa using hb) e) f0 f1 f3 f4 f5⟩
 self:=fun _ _ _ _ _ st h=>wpAny_pyIter_striter_ascii st.2 h
theorem sO{P:Program}{w:World}{K:W.Frag}{tg:Expr}(it:Addr)(x:Str)(t:Tok):Turn P w K tg (A3 x) [it] it (fun i h=>i≤x.cps.size∧h.IsStrIter it "str_iterator" x t i) where
 mem:=by simp
 obj:=fun i h st b hb=>by
  have e:b=it:=by simpa using hb
  subst e
  obtain⟨_,o,e,c,d⟩:=st
  exact⟨o,e,fun v z=>by rw[d] at z;cases z⟩
 keep:=fun i h h' st k=>⟨st.1,let ⟨o,e,r⟩:=st.2;⟨o,k it (by simp) o e,r⟩⟩
 item:=by
  intro X hP hw hK hc i pins s σ H E I hf st hg
  subst hP hw hK
  obtain⟨f0,f1,f2,f3,f4,f5⟩:=hf it (by simp)
  have hi:i<x.cps.size:=hg
  refine(Walks.strWide (prog:=X.prog) (w:=X.w) (I.ok.hd hc) it x t).item i s _ _ hi st.2 fun v h' tk hv pj kk=>?_
  obtain⟨c,u,BX,rfl⟩:=hv
  have I1:Inv X pins σ H {s with heap:=h',toks:=tk}:=I.turned (fun b o hb e=>kk b o (by simpa using hb) e) f0 f1 f3 f4 f5
  obtain⟨o,e,cc,dd⟩:=id pj
  exact⟨_,rfl,oy (s:={s with heap:=h',toks:=tk}) e cc dd (by decide) ⟨.str ⟨#[c]⟩,H,I1,⟨u,rfl⟩,⟨rfl,c,BX,rfl⟩,⟨hi,pj⟩,fun b hb=>(hf b hb).1⟩⟩
 done:=by
  intro X hP hw hK hc i pins s σ H E I hf st hg
  subst hP hw hK
  obtain⟨f0,f1,f2,f3,f4,f5⟩:=hf it (by simp)
  have hi:i=x.cps.size:=Nat.le_antisymm st.1 hg
  subst hi
  exact(Walks.strWide (prog:=X.prog) (w:=X.w) (I.ok.hd hc) it x t).done s _ _ st.2 fun h' tk kk=>⟨rfl,I.turned (fun b o hb e=>kk b o (by simpa using hb) e) f0 f1 f3 f4 f5⟩
 self:=fun _ _ _ _ _ st h=>wpAny_pyIter_striter_wide st.2 h
section
variable{X:Cx}{Xw:Nat→Hp→Prop}{tg a b e l o:Expr}{δ δa δb δo:DE}{δs:DA}{pos p p2 apos aP:Pos}
def Cm(tl:TE):TI:=fun σ H R=>tl σ H fun x H1=>∃z,x= .str z∧R (A3 z) H1
theorem y2{tl:TE}(hl:PE X l tl):PI X tg l (Cm tl):=by
 intro pins s σ H R I h
 refine bC (hl pins s σ H _ I h) fun v s1 ⟨x,H1,I1,r1,q1⟩=>?_
 obtain⟨z,e,q⟩:=q1
 subst e
 obtain⟨t,rfl⟩:=r1
 have fp:∀b∈[s1.heap.objs.size],nR X pins H1 b:=fun b hb=>by
  have e:b=s1.heap.objs.size:=by simpa using hb
  subst e
  exact I1.fpOk (Nat.le_refl _) (I1.hok.fresh (Nat.le_refl _))
 cases ha:z.cps.all (· <128)
 ·exact wpAny_pyIter_wide ha ⟨s1.heap.objs.size,[s1.heap.objs.size],_,_,H1,rfl,I1.kept (t':=s1.toks) fun b o e=>Heap.get?_push_of_some _ e,sO _ z t,⟨Nat.zero_le _,_,Heap.get?_push_size _ rfl,rfl,rfl⟩,fp,q⟩
 ·exact wpAny_pyIter_ascii ha ⟨s1.heap.objs.size,[s1.heap.objs.size],_,_,H1,rfl,I1.kept (t':=s1.toks) fun b o e=>Heap.get?_push_of_some _ e,sN _ z t,⟨Nat.zero_le _,_,Heap.get?_push_size _ rfl,rfl,rfl⟩,fp,q⟩
def signs(x:Str):List D:=x.cps.toList.map fun c=>D.str ⟨#[c]⟩
def gS:D→M (List D)
 | .str x=>M.ret (signs x)
 |_=>M.stuck
theorem vN{K:W.Frag}{F:Hp}(x:Str):ItD K F (A3 x) (signs x):=fun F' H' i s1 s2=>by
 refine⟨fun d e=>?_,fun hl=>show x.cps.size≤i by simpa[signs] using hl⟩
 unfold signs at e
 rw[List.getElem?_map] at e
 cases q:x.cps.toList[i]? with
 |none=>rw[q] at e;cases e
 |some c=>
  rw[q] at e
  cases e
  have hi:i<x.cps.size:=by
   have:=(List.getElem?_eq_some_iff.mp q).1
   simpa using this
  refine⟨hi,fun v H'' y=>?_⟩
  obtain⟨e2,c',xn,rfl⟩:=y
  subst e2
  have:c'=c:=by
   have q':x.cps[i]? =some c:=by simpa using q
   rw[q'] at xn
   exact(Option.some.inj xn).symm
  subst this
  exact⟨F',Ext.refl s2,rfl,by show 1≤lim;decide⟩
theorem gH(h:PD X Xw l δ):xa X Xw tg l (fun ρ=>δ ρ>>=gS):=PI.weak (y2 h) fun σ H R ⟨F,ρ,s,w⟩=>by
 refine⟨F,ρ,s,WP.mono (WPI.bind w) fun v H1 ⟨F1,d,e1,q1,w1⟩=>?_⟩
 cases d with
 |str z=>exact⟨z,q1.1,w1 _ _ _ (Ext.refl e1.fh) (vN z)⟩
 |_=>exact w1.elim
end
end L3
namespace L3
open PySem PySem.Spec L2 SeqAt HT
open PyProof.Rows hiding St
open PySem.W (Frag Looks InstAt findIn mroIn)
open PySem.Builtin PySem.Builtin.ObjectAttr PySem.Builtin.Getset_descriptor
section
variable{prog:Program}{w:World}{A:Around}{E:Value→Shared→Prop}{h:Heap}{g:Array GenState}{d:Drawn}{t:Nat}{os:OsState}{x D:Addr}{ox:Obj}{K:Frag}
structure ExcC (K:Frag) (D:Addr):Prop where
 ga:findIn K (.ref D) "__getattribute__"=some (some (.builtin "BaseException.__getattribute__"))
 gt:findIn K (.ref D) "__getattr__"=some none
 ca:findIn K (.ref D) "__class__"=some (some (.builtin "object.__class__"))
 mo:mroIn K D (.type "object")=some true
 mb:mroIn K D (.type "BaseException")=some true
 cl:(PySem.W.clsIn K D).isSome=true
end
section
variable{X:Cx}{Xw:Nat→Hp→Prop}{e e2:Expr}{δs:DA}{pos p:Pos}
end
end L3
namespace L3
open PySem PySem.Spec L2 SeqAt HT
open PyProof.Rows hiding St
open PySem.W (Frag Looks findIn mroIn)
section
variable{X:Cx}{pins pn:List (Addr×Obj)}{σ:St}{H:Hp}{s:Shared}{E:Value→Shared→Prop}{ea:Addr}
end
section
variable{P:Program}{w:World}{K:W.Frag}{mg:Str→Option Value}{base:Heap}{N:List Str}{qual:Str}{scope:Scope}{f:Addr}{cd:Value}{A:Around}{outer:List Env}{s₀:Shared}{H₀:Hp}{E:XK}{cv:Nat→Value}
end
end L3
namespace L3
open PySem PySem.Spec L2 SeqAt HT
open PyProof.Rows hiding St
structure RoomH (k:Nat) (A:Around):Prop where
 dp:A.depth+3*k+5<recursionLimit
 un:A.units+16*k+200<cLine
theorem RoomH.units{k:Nat}{A:Around}(r:RoomH k A):A.units+64<cLine:=by have:=r.un;omega
structure FnOkH (P:Program) (w:World) (K:W.Frag) (mg:Str→Option Value) (base:Heap) (k:Nat) (f:Addr) (fd:FuncData) (ps:List Str) (sp:Sp):Prop where
 len:∀vs H Q E,sp vs H Q E→vs.length=ps.length
 run:∀(A:Around) (outer:List Env) (s:Shared) (H:Hp) (args:Args) (us:List Value) (vs:List V) (Q:VK) (E:XK),RoomH k A→Env0 P w K mg base A outer s H→BindsTo s fd args (ps.zip us)→Vals vs us→sp vs H Q E→
  codeAny (model P w) A (.call (.ref f) args) (CR DQ outer P w H s Q E) s
section
variable{P:Program}{w:World}{K:W.Frag}{mg:Str→Option Value}{base:Heap}{cv:Nat→Value}
end
section
variable{X:Cx}{Xw:Nat→Hp→Prop}{cv:Nat→Value}{k m:Nat}{f:Addr}{fd:FuncData}{ps:List Str}{g:List D→M D}{x:Str}{p pos:Pos}{e:Expr}{es:List Expr}{δs:DA}
end
def qO(N:List Str)(osc scope:Scope)(tn:List Str):Bool:=
 decide (scope.kind= .function)&&scope.names.all (fun y=>decide (y.2≠ .cell))&&scope.names.all (fun y=>decide (y.2= .local→scope.names.lookup y.1=some .local))&&
 scope.names.all (fun y=>decide (y.2= .free→(osc.names.lookup y.1=some .cell∨osc.names.lookup y.1=some .free)))&&
 ((bZ tn N).zip N).all (fun p=>decide (scope.names.lookup p.1=none∨(p.1=p.2∧scope.names.lookup p.1=some .free)))
theorem bj{X:Cx}{N:List Str}{osc scope:Scope}{tn:List Str}(hN:X.N=N)(ho:X.env.scope=osc)(h:qO N osc scope tn=true):CompSc X scope tn:=by
 unfold qO at h
 simp only[Bool.and_eq_true,List.all_eq_true,decide_eq_true_eq] at h
 obtain⟨⟨⟨⟨h1,h2⟩,h3⟩,h4⟩,h5⟩:=h
 refine⟨h1,h2,h3,fun y hy hf=>?_,?_⟩
 ·have:=h4 y hy hf
  rw[←ho] at this
  exact this
 ·rw[hN]
  exact h5
theorem cY{X:Cx}{x:Str}{px:Pos}{σ:St}(hN:X.N.Nodup)(h0:X.N[0]? =some x)(yj:X.env.scope.names.lookup x=some .local):rD X (.Name x px) 0 σ:=fun pins s σ' F H d ts v u I fh hd rv q e=>by
 have e:M.ret [d]=M.ret ts:=e
 have e:=eg e
 subst e
 refine wpAny_assign_Name (pk I hN h0 (.inl yj) rv (fun s' I'=>⟨[v],?_, .cons q .nil⟩) (.inr yj))
 have hl:0<σ'.length:=by rw[I.len];exact(List.getElem?_eq_some_iff.mp h0).1
 have:σ'.set 0 (some v)=[v].map some++σ:=by
  cases σ' with
  |nil=>simp at hl
  |cons a r=>
   have hd:r=σ:=by simpa using hd
   subst hd
   rfl
 rw[←this]
 exact I'
theorem dU{P:Program}{w:World}{cv:Nat→Value}{X:Cx}:Passes (fF P w cv) X (EX cv fun _ _=>False):=fun _ _ _ _ _ _ _ ⟨_,_,_,_,_,_,_,_,_,_,_,_,_,_,z⟩=>z.elim
def bx(K:W.Frag)(mg:Str→Option Value)(x:Str)(st:Stmt)(f:Addr):Prop:=mg x=some (.ref f)∧∃fd,Fun K x x st f fd
def aj(P:Program)(w:World)(K:W.Frag)(mg:Str→Option Value)(base:Heap)(cv:Nat→Value)(k:Nat)(x:Str)(m:Nat)(g:List D→M D):Prop:=
 ∃f fd ps,mg x=some (.ref f)∧PySem.W.keepIn K (.ref f)=true∧Binds K fd ps []∧FnOk P w K mg base (fF P w cv) k f fd ps (zA K cv m g)
section
variable{X:Cx}{Xw:Nat→Hp→Prop}{cv:Nat→Value}{k m:Nat}{g:List D→M D}{x:Str}{p pos:Pos}{e:Expr}{es:List Expr}{δs:DA}
def ak(m:Nat)(g:List D→M D)(δs:DA):DE:=fun ρ=>δs ρ>>=fun ds=>if ds.length=m then g ds else M.stuck
theorem aR(F:aj X.prog X.w X.K X.mg X.base cv k x m g)(hr:Room k X.A)(hg:Gl X x)(hx:Passes (fF X.prog X.w cv) X (EX cv Xw))
 (ha:kG X Xw (e::es) δs)(hl:(e::es).length=m)(mC:(x==("__debug__":Str))=false:=by decide)(he:starEach (e::es) X.env=(false,eval e X.env)::starEach es X.env:=by rfl)(pJ:(backTo pos (starEach es X.env)).any (·.1)=false:=by rfl):
 PD X Xw (.Call (.Name x p) (e::es) [] pos) (ak m g δs):=by
 obtain⟨f,fd,ps,h1,h2,h3,h4⟩:=F
 exact wm h4 hr hg h1 h2 h3 hx ha hl mC he pJ
end
theorem ay{P:Program}{w:World}{K:W.Frag}{mg:Str→Option Value}{base:Heap}{cv:Nat→Value}{k:Nat}{x:Str}{st:Stmt}{f:Addr}{N ps:List Str}{τ:DS}(T:bx K mg x st f)(S:FnScope N ps (af st))
 (Ef:∀(kV doc pm:Value) (an:Option Addr) (aY ct:Value) (us:List Value),us.length=ps.length→bindArgs (PySem.W.fnOf x x (cU st) (aI st) (af st) .none kV doc pm an aY ct) ⟨us,[]⟩=pure (ps.zip us))
 (oA:∀(aY:Value) (A:Around) (outer:List Env) (s:Shared) (H:Hp) (E:XK),Room k (A.deeper (envOfC x (af st) s.heap.objs.size f aY))→
  PSDs (cb (fF P w cv) P w K mg base N x (af st) f aY A outer s H E) (fun n H'=>E (cv n) none H') (aI st) τ):aj P w K mg base cv (k+1) x ps.length (bV N.length τ):=by
 obtain⟨h1,fd,Fn⟩:=T
 exact⟨f,fd,ps,h1,Fn.kp,Fn.binds Ef,zX Fn S oA⟩
section
variable{X:Cx}{Xw:Nat→Hp→Prop}{a e:Expr}{δ:DE}{pos:Pos}
def yE:D→M D
 | .int i=>M.ret (.int (-i))
 |_=>M.stuck
theorem yP(ha:PD X Xw a δ):PD X Xw (.UnaryOp .USub a pos) (d1 yE δ):=PE.weak (Ay zr ha) fun σ H Q ⟨F,ρ,s,w⟩=>by
 refine⟨F,ρ,s,WP.mono (WP.bind w) fun v H1 ⟨F1,d,e1,q,w1⟩=>?_⟩
 cases d with
 |int i=>
  have q:v= .int i:=q
  subst q
  exact⟨i,rfl,WP.now w1 e1.fh rfl⟩
 |_=>exact w1.elim
end
section
variable{X:Cx}{Xw:Nat→Hp→Prop}{pos:Pos}
theorem mX{x z:Str}(hg:Gl X x)(h:∃t,X.mg x=some (.str z t))(hz:z.length≤lim)(mC:(x==("__debug__":Str))=false:=by decide):PD X Xw (.Name x pos) (dC (.str z)):=by
 obtain⟨t,h⟩:=h
 exact rb (v:= .str z) hg h ⟨t,rfl⟩ (fun _=>⟨rfl,hz⟩) mC
theorem rf{x:Str}{i:Int}(hg:Gl X x)(h:∃t,X.mg x=some (.int i t))(mC:(x==("__debug__":Str))=false:=by decide):PD X Xw (.Name x pos) (dC (.int i)):=by
 obtain⟨t,h⟩:=h
 exact rb (v:= .int i) hg h ⟨t,rfl⟩ (fun _=>rfl) mC
end
structure Box (p:Prop):Prop where
 out:p
section
variable{X:Cx}{Xw:Nat→Hp→Prop}{a:Expr}{δa:DE}{pos:Pos}
theorem b_{st:Stmt}{rest:List Stmt}{τ τ':DS}(h1:Box (eB X Xw st τ))(h2:Box (PSDs X Xw rest τ')):Box (PSDs X Xw (st::rest) (aS τ τ')):=⟨av h1.out h2.out⟩
theorem xV{st:Stmt}{τ:DS}(h1:Box (eB X Xw st τ)):Box (PSDs X Xw [st] τ):=⟨ao h1.out⟩
end
theorem A0{l:PySem.W.OpenLaw}{n k:Nat}{q:Program}{loose:List Str}{XP:(Str→Option Value)→Heap→Prop}{YP:World→Heap→Prop}{d:DefRec}{K:Params→W.Frag}{x:Str}{g:List D→M D}
 (hn:l.most=some n)(Ae:n≤lim)(z7:d.params.defaults=[])(hr:Room k callerA)
 (hY:∀(w:World) (h:Heap),YP w h→(K w.params).In h)(hg:∀ns:List Int,ns.length≤n→g [.scr ns]=M.ret (.bl true))
 (F:∀(w:World) (mg:Str→Option Value) (fa:Addr) (h:Heap),(K w.params).In h→h.Ns mainGlobals mg→mg d.name=some (.ref fa)→
  ∃(cv:Nat→Value) (fd:FuncData),(∀(s:Shared) (u:Value),BindsTo s fd ⟨[u],[]⟩ [(x,u)])∧
   ∀base:Heap,(K w.params).In base→base.Ns mainGlobals mg→FnOk l.prog w (K w.params) mg base (fF l.prog w cv) k fa fd [x] (zA (K w.params) cv 1 g)):
 PySem.W.WalkO q loose XP YP l.row.toRowW d [] (fun f vs=>PySem.call f vs):=by
 refine Att.attach_call hn z7 fun w s₀ s₁ mg mb fa o pm cd doc a vs ns G Y ho hd sV yk tT hints hlen El=>?_
 have KX:=hY w _ Y
 obtain⟨cv,fd,hb,hF⟩:=F w mg fa _ KX G.T.g yk
 refine oF KX G.T.g G.T.b G.T.builtins G.T.nolimit El tT hints (Nat.le_trans hlen (Nat.le_trans Ae (Nat.le_of_lt cj))) hr hF hb (fun H hO hS=>?_) fun H e s' z=>?_
 ·refine⟨H,[.scr ns],fun _ _ e=>e,⟨_,_,rfl,⟨a,rfl,hS,Nat.le_trans hlen Ae⟩,rfl⟩,rfl,?_⟩
  rw[hg ns hlen]
  exact fun v H' F' e q=>q
 ·obtain⟨_,_,_,_,_,_,_,_,_,_,_,_,_,_,y⟩:=z
section
variable{prog:Program}{w:World}{A:Around}{E:Value→Shared→Prop}{s:Shared}
end
section
variable{X:Cx}{Xw:Nat→Hp→Prop}{e D0:Expr}{te ts:TE}{δ δs:DE}{pos p2:Pos}
variable{o:Expr}{δo:DE}{δl:DA}{apos aP:Pos}
def tf(x y:Str):Nat:=(Builtin.Str.occurrences x y 0 x.length (x.length+1)).length
def nZ:D→List D→M D
 | .str x,[.str y]=>M.ret (.int (tf x y))
 |_,_=>M.stuck
theorem vY:A4 X "str.count" (fun x vs H Q=>∃y z:Str,x= .str y∧vs=[.str z]∧Q (.int (tf y z)) H):=by
 intro pins s σ H x vs v us Q I rx rv h
 obtain⟨y,z,rfl,rfl,q⟩:=h
 obtain⟨t,rfl⟩:=rx
 obtain⟨u,rfl,r1⟩:=rv.one
 obtain⟨t2,rfl⟩:=r1
 exact call_gives F.slot_str_count (typeIs_str _ _ _) F.entry_str_count (F.args_str_count_2 _ _) (gives_str_count y z t t2) ⟨.int (tf y z),H,I.tok _,⟨_,rfl⟩,q⟩
theorem wq(ho:PD X Xw o δo)(ha:kG X Xw [e] δl)(eL:attributeBase o "count" X.env (eval o X.env)=eval o X.env:=by rfl)
 (jH:((backTo aP (starEach [e] X.env)).all (fun x=>!x.1)&&(backToKw aP (keywordEach [] X.env)).all (fun x=>x.1.isSome)&&decide ([e].length+([]:List Keyword).length+(if ([]:List Keyword).isEmpty then 0 else 1)<30))=true:=by rfl)
 (eM:(apos.endLine==aP.line)=true:=by rfl)(rT:starEach [e] X.env=[(false,eval e X.env)]:=by rfl):PD X Xw (.Call (.Attribute o "count" apos) [e] [] aP) (dM jL nZ δo δl):=
 xH PySem.F.plainAttrs_str PySem.F.slot_str_count PySem.F.type_str_count vY tY (fun Xw F H x vs d ds Q s hx hv w=>by
  unfold nZ at w
  split at w
  ·rename_i y z
   obtain⟨v,rfl,h1⟩:=hv.one
   exact⟨y,z,hx.1,by rw[h1.1],WP.now w s rfl⟩
  ·exact w.elim) ho ha eL jH eM rT rfl
end
namespace RV
end RV
def IsTupRev(h:Heap)(it t:Addr)(i:Int):Prop:=∃o,h.get? it=some o∧o.cls= .type "reversed"∧o.data= .fields #[.ref t,rawInt i]
section
variable{prog:Program}{w:World}{A:Around}{E:Value→Shared→Prop}{s:Shared}
theorem IsTupRev.typeIs{it t:Addr}{i:Int}(x:IsTupRev s.heap it t i):s.TypeIs (.ref it) "reversed":=let ⟨o,ho,hc,_⟩:=x;⟨o,ho,hc⟩
end
section
variable{X:Cx}{Xw:Nat→Hp→Prop}{tg e:Expr}{es:List Expr}{δ δi:DE}{δs:DA}{pos p:Pos}
end
end L3
namespace L3
open PySem PySem.Spec L2 SeqAt HT
open PyProof.Rows hiding St
def mG:D→Option Key
 | .int i=>some (.inl i)
 | .str x=>some (.inr x)
 |_=>none
def vS:List D→Option (List Key)
 |[]=>some []
 |d::ds=>match mG d,vS ds with
  |some k,some ks=>some (k::ks)
  |_,_=>none
def oE:D→Option (List Key)
 | .tup ds=>vS ds
 |_=>none
theorem eN{K:W.Frag}{F:Hp}{d:D}{v:V}{k:Key}(e:mG d=some k)(h:Den K F d v):v=kV k:=by
 cases d<;>first | cases e | skip
 ·exact h
 ·exact h.1
theorem gp{K:W.Frag}{F:Hp}:∀{ds:List D}{vs:List V}{ks:List Key},vS ds=some ks→DenL K F ds vs→vs=ks.map kV
 |[],_,_,e,h=>by cases e;exact h
 |d::ds,_,_,e,⟨v,r,h1,h2,h3⟩=>by
  unfold vS at e
  split at e
  ·rename_i k ks e1 e2
   cases e
   subst h1
   rw[List.map_cons,eN e1 h2,gp e2 h3]
  ·cases e
section
variable{κ:Type}[DecidableEq κ]
def gf:List κ→List D→κ→Option D
 |k'::ks,d::ds,k=>if k'=k then some d else gf ks ds k
 |_,_,_=>none
def qu:List κ→List D→κ→D→List D
 |k'::ks,d'::ds,k,d=>(if k'=k then d else d')::qu ks ds k d
 |_,_,_,_=>[]
theorem gT{K:W.Frag}{F:Hp}:∀{ks:List κ}{ds:List D}{vs:List V}(k:κ),DenL K F ds vs→ks.length=ds.length→
 (match gf ks ds k with | some d=>∃v,gU (ks.zip vs) k=some v∧Den K F d v | none=>gU (ks.zip vs) k=none)
 |[],[],_,_,_,_=>rfl
 |k'::ks,d::ds,_,k,⟨v,r,h1,h2,h3⟩,hl=>by
  subst h1
  unfold gf
  rw[List.zip_cons_cons]
  by_cases e:k'=k
  ·rw[if_pos e,gX (p:=(k',v)) e]
   exact⟨v,rfl,h2⟩
  ·rw[if_neg e,gW (p:=(k',v)) e]
   exact gT k h3 (by simpa using hl)
 |[],_::_,_,_,_,hl=>by simp at hl
 |_::_,[],_,_,_,hl=>by simp at hl
theorem fi{K:W.Frag}{F:Hp}{ks:List κ}{ds:List D}{vs:List V}(k:κ)(h:DenL K F ds vs)(hl:ks.length=ds.length):(gU (ks.zip vs) k).isSome=(gf ks ds k).isSome:=by
 have:=gT k h hl
 split at this
 ·rename_i d e
  obtain⟨v,e1,_⟩:=this
  rw[e1,e];rfl
 ·rename_i e
  rw[this,e]
  rfl
theorem o8{K:W.Frag}{F:Hp}{d:D}{v:V}(hd:Den K F d v):∀{ks:List κ}{ds:List D}{vs:List V}(k:κ),DenL K F ds vs→ks.length=ds.length→
 ∃ws,(ks.zip vs).map (fun kv=>if kv.1=k then(kv.1,v) else kv)=ks.zip ws∧DenL K F (qu ks ds k d) ws
 |[],[],_,_,h,_=>⟨[],rfl,rfl⟩
 |k'::ks,d'::ds,_,k,⟨v',r,h1,h2,h3⟩,hl=>by
  subst h1
  obtain⟨ws,e1,e2⟩:=o8 hd k h3 (by simpa using hl)
  by_cases e:k'=k
  ·refine⟨v::ws,?_,?_⟩
   ·rw[List.zip_cons_cons,List.map_cons,e1,if_pos e];rfl
   ·unfold qu;rw[if_pos e];exact .cons hd e2
  ·refine⟨v'::ws,?_,?_⟩
   ·rw[List.zip_cons_cons,List.map_cons,e1,if_neg e];rfl
   ·unfold qu;rw[if_neg e];exact .cons h2 e2
 |[],_::_,_,_,_,hl=>by simp at hl
 |_::_,[],_,_,_,hl=>by simp at hl
theorem kg:∀(ks:List κ) (ds:List D) (k:κ) (d:D),ks.length=ds.length→(qu ks ds k d).length=ds.length
 |[],[],_,_,_=>rfl
 |_::ks,_::ds,k,d,h=>by unfold qu;rw[List.length_cons,List.length_cons,kg ks ds k d (by simpa using h)]
 |[],_::_,_,_,h=>by simp at h
 |_::_,[],_,_,h=>by simp at h
def j_(ks:List κ)(ds:List D)(k:κ):List κ:=if (gf ks ds k).isSome then ks else ks++[k]
def gO(ks:List κ)(ds:List D)(k:κ)(d:D):List D:=if (gf ks ds k).isSome then qu ks ds k d else ds++[d]
theorem rm{K:W.Frag}{F:Hp}{d:D}{v:V}(hd:Den K F d v){ks:List κ}{ds:List D}{vs:List V}(k:κ)(h:DenL K F ds vs)(hl:ks.length=ds.length):
 ∃ws,putK (ks.zip vs) k v=(j_ ks ds k).zip ws∧DenL K F (gO ks ds k d) ws∧(j_ ks ds k).length=(gO ks ds k d).length:=by
 have hs:=fi (K:=K) (F:=F) k h hl
 unfold putK j_ gO
 have ha:((ks.zip vs).any fun kv=>decide (kv.1=k))=(gU (ks.zip vs) k).isSome:=kz ..
 rw[ha,hs]
 cases e:(gf ks ds k).isSome with
 |true=>
  rw[if_pos rfl,if_pos rfl,if_pos rfl]
  obtain⟨ws,e1,e2⟩:=o8 hd k h hl
  exact⟨ws,e1,e2,by rw[kg ks ds k d hl];exact hl⟩
 |false=>
  rw[if_neg Bool.false_ne_true,if_neg Bool.false_ne_true,if_neg Bool.false_ne_true]
  refine⟨vs++[v],?_,h.append (.cons hd .nil),by simp[hl]⟩
  rw[List.zip_append (by rw[hl];exact h.len)]
  rfl
end
theorem nJ{κ:Type}{K:W.Frag}{F:Hp}{ks:List κ}{ds:List D}{vs:List V}(h:DenL K F ds vs)(hl:ks.length=ds.length):(ks.zip vs).length=ds.length:=by
 rw[List.length_zip,hl,←h.len];omega
def kq(ρ:aT)(i:Nat):Option D:=match ρ[i]? with
 |some (some (.fz d))=>some d
 |some (some (.ow c))=>some c.d
 |_=>none
theorem vb{K:W.Frag}{F H:Hp}{σ:St}{ρ:aT}{i:Nat}{ks:List (List Key)}{ds:List D}(s:StE K F H σ ρ)(e:kq ρ i=some (.dct ks ds)):
 ∃a vs,σ[i]? =some (some (.ref a))∧Rd H a (.dT (ks.zip vs))∧DenL K F ds vs∧ks.length=ds.length∧ds.length≤lim:=by
 unfold kq at e
 split at e
 ·rename_i d e1
  cases e
  obtain⟨v,h1,a,ob,vs,rfl,h2,h3,h4,h5⟩:=s.den i _ e1
  exact⟨a,vs,h1, .inr ⟨ob,s.fh _ _ h2⟩,h3,h4,h5⟩
 ·rename_i c e1
  cases c<;>cases e
  obtain⟨v,h1,a,o,rfl,h2,_,vs,rfl,h3,h4,h5⟩:=s.den i _ e1
  exact⟨a,vs,h1, .inl h2,h3,h4,h5⟩
 ·cases e
theorem va{K:W.Frag}{F H:Hp}{σ:St}{ρ:aT}{i:Nat}{ks:List Key}{ds:List D}(s:StE K F H σ ρ)(e:kq ρ i=some (.dci ks ds)):
 ∃a vs,σ[i]? =some (some (.ref a))∧Rd H a (.dK (ks.zip vs))∧DenL K F ds vs∧ks.length=ds.length∧ds.length≤lim:=by
 unfold kq at e
 split at e
 ·rename_i d e1
  cases e
  obtain⟨v,h1,a,ob,vs,rfl,h2,h3,h4,h5⟩:=s.den i _ e1
  exact⟨a,vs,h1, .inr ⟨ob,s.fh _ _ h2⟩,h3,h4,h5⟩
 ·rename_i c e1
  cases c<;>cases e
  obtain⟨v,h1,a,o,rfl,h2,_,vs,rfl,h3,h4,h5⟩:=s.den i _ e1
  exact⟨a,vs,h1, .inl h2,h3,h4,h5⟩
 ·cases e
def vn:D→D→Option (Option D)
 | .dct ks ds,k=>(oE k).map (gf ks ds)
 | .dci ks ds,k=>(mG k).map (gf ks ds)
 |_,_=>none
theorem qL{K:W.Frag}{F H:Hp}{σ:St}{ρ:aT}{i:Nat}{d k:D}{y:V}{o:Option D}(s:StE K F H σ ρ)(hi:kq ρ i=some d)(hk:Den K F k y)(e:vn d k=some o):
 ∃a ov,σ[i]? =some (some (.ref a))∧jb H a y ov∧ov.isSome=o.isSome∧∀d',o=some d'→∃v,ov=some v∧Den K F d' v:=by
 unfold vn at e
 split at e
 ·rename_i ks ds
  cases q:oE k with
  |none=>rw[q] at e;cases e
  |some kk=>
   rw[q] at e
   cases e
   obtain⟨a,vs,h1,h2,h3,h4,h5⟩:=vb s hi
   unfold oE at q
   split at q
   ·rename_i es
    obtain⟨b,ws,rfl,k2,k3,_⟩:=hk
    have e1:=gp q k3
    subst e1
    refine⟨a,_,h1, .inr ⟨_,kk,b,h2,rfl,s.fh _ _ k2,rfl⟩,fi kk h3 h4,fun d' yh=>?_⟩
    have:=gT (K:=K) (F:=F) kk h3 h4
    rw[yh] at this
    exact this
   ·cases q
 ·rename_i ks ds
  cases q:mG k with
  |none=>rw[q] at e;cases e
  |some kk=>
   rw[q] at e
   cases e
   obtain⟨a,vs,h1,h2,h3,h4,h5⟩:=va s hi
   have e1:=eN q hk
   subst e1
   refine⟨a,_,h1, .inl ⟨_,kk,h2,rfl,rfl⟩,fi kk h3 h4,fun d' yh=>?_⟩
   have:=gT (K:=K) (F:=F) kk h3 h4
   rw[yh] at this
   exact this
 ·cases e
section
variable{X:Cx}{Xw:Nat→Hp→Prop}{a b:Expr}{δa δb:DE}{pos:Pos}
end
section
variable{X:Cx}{Xw:Nat→Hp→Prop}{a e:Expr}{δ δk δv:DE}{pos p pos' y6 apos aP:Pos}{x:Str}{i:Nat}
def zQ(neg:Bool)(i:Nat)(δ:DE):DE:=fun ρ=>δ ρ>>=fun k=>match kq ρ i with
 |some d=>match vn d k with
  |some o=>M.ret (.bl (if neg then !o.isSome else o.isSome))
  |none=>M.stuck
 |none=>M.stuck
theorem yq{neg:Bool}{σ:St}{H:Hp}{Q:VK}(h:tD X.K Xw (zQ neg i δ) σ H Q):(fun σ H Q=>tD X.K Xw δ σ H fun y H1=>k6 i σ H1 fun x H2=>∃a o,x= .ref a∧jb H2 a y o∧Q (.bl (if neg then !o.isSome else o.isSome)) H2) σ H Q:=by
 obtain⟨F,ρ,s,w⟩:=h
 refine⟨F,ρ,s,WP.mono (WP.bind w) fun y H1 ⟨F1,k,e1,q1,w1⟩=>?_⟩
 have s1:=s.ext e1
 cases hi:kq ρ i with
 |none=>rw[hi] at w1;exact w1.elim
 |some d=>
  rw[hi] at w1
  have w1:WP X.K Xw F1 H1 (match vn d k with | some o=>M.ret (.bl (if neg then !o.isSome else o.isSome)) | none=>M.stuck) Q:=w1
  cases he:vn d k with
  |none=>rw[he] at w1;exact w1.elim
  |some o=>
   rw[he] at w1
   obtain⟨a,ov,h1,h2,h3,_⟩:=qL s1 hi q1 he
   refine⟨.ref a,h1,a,ov,rfl,h2,?_⟩
   rw[h3]
   exact WP.now w1 e1.fh rfl
theorem CC(hu:X.A.units+64<cLine)(ha:PD X Xw a δ)(hv:PE X (.Name x p) (k6 i))(hm:behindInMarks .In (.Name x p)=false:=by rfl):PD X Xw (.Compare a [.In] [.Name x p] pos) (zQ false i δ):=
 PE.weak (yU (yM (by omega) ha hv) hm) fun σ H Q h=>yq (neg:=false) h
def xM(i:Nat):DS:=fun ρ=>M.ret (.nx (ρ.set i (some (.ow (.dci [] [])))))
theorem uP(hN:X.N.Nodup)(hi:X.N[i]? =some x)(hx:Loc X.env.scope x)(hf:X.fn x=true∨X.env.scope.names.lookup x=some .local:=by first | exact .inl rfl | exact .inr rfl):
 eB X Xw (.Assign [.Name x pos'] (.Dict [] [] y6) pos) (xM i):=fun F₀ H₀=>PS.weak (qt uM (b9 hN hi hx hf) rfl) fun D σ H ⟨F,ρ,s,w⟩=>fun q hq=>
 w _ F _ (s.setNew (c₀:= .dci [] []) hq ⟨[],rfl,rfl,rfl,Nat.zero_le _⟩)
def kR:C→D→D→Option C
 | .dct ks ds,k,d=>match oE k with
   |some kk=>if ds.length<lim then some (.dct (j_ ks ds kk) (gO ks ds kk d)) else none
   |none=>none
 | .dci ks ds,k,d=>match mG k with
   |some kk=>if ds.length<lim then some (.dci (j_ ks ds kk) (gO ks ds kk d)) else none
   |none=>none
 |_,_,_=>none
def wg(ρ:aT)(i:Nat):Option C:=match ρ[i]? with
 |some (some (.ow c))=>some c
 |_=>none
theorem sx{ρ:aT}{i:Nat}{c:C}(h:wg ρ i=some c):ρ[i]? =some (some (.ow c)):=by
 unfold wg at h
 split at h
 ·rename_i c' e
  cases h
  exact e
 ·cases h
def rq(i:Nat)(δk δv:DE):DS:=fun ρ=>match wg ρ i with
 |some c=>δv ρ>>=fun v=>δk ρ>>=fun k=>match kR c k v with
  |some c'=>M.ret (.nx (ρ.set i (some (.ow c'))))
  |none=>M.stuck
 |none=>M.stuck
theorem l7{κ:Type}[DecidableEq κ]{ks:List κ}{ds:List D}{k:κ}{d:D}(hl:ks.length=ds.length)(h:ds.length<lim):(gO ks ds k d).length≤lim:=by
 unfold gO
 split
 ·rw[kg ks ds k d hl];omega
 ·rw[List.length_append];exact h
theorem uV{K:W.Frag}{F H:Hp}{c c':C}{k d:D}{y v:V}{o:HO}{b:Addr}(hs:Same F H)(hb:H b=some o)(hc:DenC K F c o)(hk:Den K F k y)(hd:Den K F d v)(e:kR c k d=some c'):∃o',DPut H b y v (upd H b o')∧DenC K F c' o':=by
 have Ab:=cj
 unfold kR at e
 split at e
 ·rename_i ks ds k d
  obtain⟨vs,rfl,h3,h4,h5⟩:=hc
  split at e
  ·rename_i kk q
   split at e
   ·rename_i lG
    cases e
    unfold oE at q
    split at q
    ·rename_i es
     obtain⟨b2,ws,rfl,k2,k3,_⟩:=hk
     have e1:=gp q k3
     subst e1
     obtain⟨us,e2,e3,e4⟩:=rm hd kk h3 h4
     refine⟨_,DPut.t hb (hs _ _ k2) (by rw[nJ h3 h4];omega),us,?_,e3,e4,l7 h4 lG⟩
     rw[e2]
    ·cases q
   ·cases e
  ·cases e
 ·rename_i ks ds k d
  obtain⟨vs,rfl,h3,h4,h5⟩:=hc
  split at e
  ·rename_i kk q
   split at e
   ·rename_i lG
    cases e
    have e1:=eN q hk
    subst e1
    obtain⟨us,e2,e3,e4⟩:=rm hd kk h3 h4
    refine⟨_,DPut.k hb (by rw[nJ h3 h4];omega),us,?_,e3,e4,l7 h4 lG⟩
    rw[e2]
   ·cases e
  ·cases e
 ·cases e
theorem uQ(hu:X.A.units+64<cLine)(hv:PE X (.Name x p) (k6 i))(hk:PD X Xw a δk)(he:PD X Xw e δv)(hs:swapsWith e (some (.Subscript (.Name x p) a pos')) pos.line X.env=pure false:=by rfl):
 eB X Xw (.Assign [.Subscript (.Name x p) a pos'] e pos) (rq i δk δv):=fun F₀ H₀=>PS.weak (wI (by omega) hv hk he hs) fun D σ H ⟨F,ρ,s,w⟩=>by
 unfold rq at w
 cases ho:wg ρ i with
 |none=>rw[ho] at w;exact w.elim
 |some c=>
  rw[ho] at w
  have hi:=sx ho
  have w:WPS X.K Xw F₀ H₀ (δv ρ>>=fun v=>δk ρ>>=fun k=>match kR c k v with | some c'=>M.ret (.nx (ρ.set i (some (.ow c')))) | none=>M.stuck) D:=w
  refine⟨F,ρ,s.st,?_⟩
  rcases(δv ρ).cs with q | ⟨n,q⟩ | ⟨dv,q⟩
  ·rw[q] at w;exact w.elim
  ·rw[q] at w⊢;exact fun F' H' e'=>w F' H' (s.ext.trans e')
  ·rw[q] at w⊢
   intro v H1 F1 e1 hq
   have s1:=s.ext' e1
   obtain⟨u,h1,b,o,rfl,h2,h3,h4⟩:=s1.st.den i _ hi
   have w:WPS X.K Xw F₀ H₀ (δk ρ>>=fun k=>match kR c k dv with | some c'=>M.ret (.nx (ρ.set i (some (.ow c')))) | none=>M.stuck) D:=w
   refine⟨.ref b,h1,F1,ρ,s1.st,?_⟩
   rcases(δk ρ).cs with q2 | ⟨n,q2⟩ | ⟨dk,q2⟩
   ·rw[q2] at w;exact w.elim
   ·rw[q2] at w⊢;exact fun F' H' e'=>w F' H' (s1.ext.trans e')
   ·rw[q2] at w⊢
    intro y H2 F2 e2 hy
    have w:WPS X.K Xw F₀ H₀ (match kR c dk dv with | some c'=>M.ret (.nx (ρ.set i (some (.ow c')))) | none=>M.stuck) D:=w
    cases hp:kR c dk dv with
    |none=>rw[hp] at w;exact w.elim
    |some c'=>
     rw[hp] at w
     have s2:=s1.ext' e2
     obtain⟨u2,k1,b2,o2,Ed,k2,k3,k4⟩:=s2.st.den i _ hi
     rw[h1] at k1
     cases k1
     cases Ed
     obtain⟨o',g,hc⟩:=uV s2.st.fh k2 k4 hy (Den.mono e2.ff hq) hp
     exact⟨b,_,rfl,g,w σ F2 _ (s2.chg hi h1 hc)⟩
end
section
variable{X:Cx}{Xw:Nat→Hp→Prop}{τ:DS}{tc:DT}{pos:Pos}
end
section
variable{X:Cx}{Xw:Nat→Hp→Prop}{a b:Expr}{δa δb:DE}{pos:Pos}
end
end L3
namespace L3
open PySem PySem.W PyProof.Rows
structure Lt (n:Nat) (b:Nat→Nat→Bool):Prop where
 tr:∀i j k,b i j=true→b j k=true→b i k=true
 E9:∀i j,b i j=true→b j i=false
 Fm:∀i j,i<n→j<n→i≠j→b i j=true∨b j i=true
abbrev at'(p:Array Nat)(i:Nat):Nat:=p.getD i 0
structure PN (n:Nat) (p:Array Nat):Prop where
 sz:p.size=n
 lt:∀i,i<n→at' p i<n
 inj:∀i j,i<n→j<n→at' p i=at' p j→i=j
section
variable{n:Nat}{b:Nat→Nat→Bool}(L:Lt n b)
include L
end
section
variable{n:Nat}{b:Nat→Nat→Bool}
variable(L:Lt n b)
include L
end
def Asks{α:Type}(n:Nat)(P:α→Prop):KasT α→Prop
 | .ret a=>P a
 | .ask i j k=>i<n∧j<n∧∀c,Asks n P (k c)
theorem Asks.bind{α β:Type}{n:Nat}{P:α→Prop}{Q:β→Prop}{f:α→KasT β}:∀{t:KasT α},Asks n P t→(∀a,P a→Asks n Q (f a))→Asks n Q (t.bind f)
 | .ret a,h,hf=>hf a h
 | .ask i j k,h,hf=>⟨h.1,h.2.1,fun c=>Asks.bind (h.2.2 c) hf⟩
section
variable{n:Nat}(hn:0<n)
include hn
end
def t8:List Int→List Int→Bool
 |[],[]=>false
 |[],_::_=>true
 |_::_,[]=>false
 |x::xs,y::ys=>if x=y then t8 xs ys else decide (x<y)
section
variable{prog:Program}{w:World}{A:Around}{E:Value→Shared→Prop}{s:Shared}
theorem oG{Q:Bool→Shared→Prop}:∀{us vs:List Value}{xs ys:List Int}(i:Nat) {fin:Bool},IntsAre us xs→IntsAre vs ys→fin=decide (xs.length<ys.length)→Q (t8 xs ys) s→KatLex prog w A true fin Q (us.zip vs) i s
 |_,_,_,_,i,_, .nil, .nil,e,h=>by subst e;exact kat_nil h
 |_,_,_,_,i,_, .nil, .cons y t r,e,h=>by subst e;exact kat_nil h
 |_,_,_,_,i,_, .cons x t r, .nil,e,h=>by subst e;exact kat_nil h
 |_,_,_,_,i,_, .cons (vs:=us) (ns:=xs) x t r, .cons (vs:=vs) (ns:=ys) y u r',e,h=>by
  refine kat_cons (wpAny_eqBool_int ?_)
  by_cases q:x=y
  ·subst q
   rw[show (x==x)=true by simp]
   refine kat_yes (oG (i+1) r r' (by rw[e];simp) ?_)
   unfold t8 at h
   rw[if_pos rfl] at h
   exact h
  ·rw[show (x==y)=false by simpa using q]
   unfold t8 at h
   rw[if_neg q] at h
   refine kat_no ?_
   by_cases hi:(i==0)=true
   ·rw[hi]
    exact oneLt_int h
   ·rw[show (i==0)=false by simpa using hi]
    exact kat_one _ _ (PyProof.Rows.lt_int h)
def TupsAt(h:Heap):List Value→List (List Int)→Prop
 |[],[]=>True
 |v::vs,k::ks=>(∃a o us m,v= .ref a∧h.get? a=some o∧o.cls= .type "tuple"∧o.data= .seq (List.toArray us) m∧IntsAre us k∧k≠[])∧TupsAt h vs ks
 |_,_=>False
theorem TupsAt.len{h:Heap}:∀{vs:List Value}{ks:List (List Int)},TupsAt h vs ks→vs.length=ks.length
 |[],[],_=>rfl
 |v::vs,k::ks,t=>by rw[List.length_cons,List.length_cons,TupsAt.len t.2]
 |[],_::_,t=>t.elim
 |_::_,[],t=>t.elim
theorem TupsAt.get{h:Heap}:∀{vs:List Value}{ks:List (List Int)}{i:Nat},TupsAt h vs ks→i<vs.length→∃a o us m,vs.getD i Value.none= .ref a∧h.get? a=some o∧o.cls= .type "tuple"∧o.data= .seq (List.toArray us) m∧IntsAre us (ks.getD i [])∧ks.getD i []≠[]
 |v::vs,k::ks,0,t,_=>t.1
 |v::vs,k::ks,i+1,t,hi=>TupsAt.get (i:=i) t.2 (by simpa using hi)
 |[],_,_,_,hi=>by simp at hi
 |_::_,[],_,t,_=>t.elim
theorem TupsAt.keep{h h':Heap}{a:Addr}(k:∀b o,b≠a→h.get? b=some o→h'.get? b=some o)(ha:∀o,h.get? a=some o→o.cls≠ .type "tuple"):∀{vs:List Value}{ks:List (List Int)},TupsAt h vs ks→TupsAt h' vs ks
 |[],[],_=>trivial
 |v::vs,x::ks,⟨⟨b,o,us,m,e1,e2,e3,e4⟩,t⟩=>⟨⟨b,o,us,m,e1,k b o (fun z=>ha o (by rw[←z];exact e2) e3) e2,e3,e4⟩,TupsAt.keep k ha t⟩
 |[],_::_,t=>t.elim
 |_::_,[],t=>t.elim
theorem jI:∀{us:List Value}{xs:List Int},IntsAre us xs→us.length=xs.length
 |_,_, .nil=>rfl
 |_,_, .cons x t r=>by rw[List.length_cons,List.length_cons,jI r]
theorem asked{vs:List Value}{ks:List (List Int)}(t:TupsAt s.heap vs ks)(i j:Nat)(C:Bool→Shared→Prop)(hi:i<vs.length)(hj:j<vs.length)(h:C (t8 (ks.getD i []) (ks.getD j [])) s):kas_ask prog w A (tuples' true) vs i j C s:=by
 obtain⟨a,o,us,m,e1,e2,_,e4,e5,_⟩:=t.get hi
 obtain⟨a',o',Fo,m',BE,BF,_,DZ,C5,_⟩:=t.get hj
 unfold kas_ask
 rw[e1,BE]
 refine kat_lt e2 e4 BF DZ (oG 0 e5 C5 ?_ h)
 rw[List.size_toArray,List.size_toArray,jI e5,jI C5]
end
section
variable{prog:Program}{w:World}{A:Around}{E:Value→Shared→Prop}{s:Shared}
end
end L3
namespace L3
open PySem
end L3
namespace L3
open PySem PySem.Spec L2 SeqAt HT
open PyProof.Rows hiding St
section
variable{X:Cx}{Xw:Nat→Hp→Prop}{e:Expr}{δs:DA}{pos p:Pos}
end
section
variable{X:Cx}{Xw:Nat→Hp→Prop}{e:Expr}{δs:DA}{pos p:Pos}
end
end L3
namespace L3
open PySem PySem.Spec L2
open PyProof.Rows hiding St
section
variable{X:Cx}{Xw:Nat→Hp→Prop}{e tg:Expr}{es:List Expr}{δ δ':DE}{δi δi' δs:DA}{τ:DT}
theorem ir{st:Stmt}:eB X Xw st (fun _=>M.stuck):=fun F₀ H₀ pins s σ H D I ⟨F,ρ,S,w⟩=>w.elim
end
def fgt:List Nat→aT→aT
 |[],ρ=>ρ
 |i::is,ρ=>fgt is (ρ.set i none)
def Ar(f:aT→aT):Out→M Out
 | .nx ρ=>M.ret (.nx (f ρ))
 | .rt d=>M.ret (.rt d)
def f6(is:List Nat)(τ:DS):DS:=fun ρ=>τ ρ>>=Ar (fgt is)
theorem StOk.fgt1{K:W.Frag}{F₀ H₀ F H:Hp}{σ:St}{ρ:aT}(s:StOk K F₀ H₀ F H σ ρ)(i:Nat):StOk K F₀ H₀ F H σ (ρ.set i none):=by
 have get:∀(j:Nat) (sl:Sl),(ρ.set i none)[j]? =some (some sl)→ρ[j]? =some (some sl):=fun j sl e=>by
  by_cases hj:j=i
  ·subst hj
   by_cases hl:j<ρ.length
   ·rw[List.getElem?_set_self hl] at e;cases e
   ·rw[List.getElem?_eq_none (by simpa using hl)] at e;cases e
  ·rw[List.getElem?_set_ne (Ne.symm hj)] at e;exact e
 exact⟨s.ext,⟨s.st.fh,fun j sl e=>s.st.den j sl (get j sl e)⟩,by simp[s.len],fun j c a e e'=>s.own j c a (get j _ e) e',fun j k c c' a e1 e2 e3 e4=>s.sep j k c c' a (get j _ e1) (get k _ e2) e3 e4⟩
theorem StOk.fgt{K:W.Frag}{F₀ H₀ F H:Hp}{σ:St}:∀(is:List Nat) {ρ:aT},StOk K F₀ H₀ F H σ ρ→StOk K F₀ H₀ F H σ (L3.fgt is ρ)
 |[],_,s=>s
 |i::is,_,s=>StOk.fgt is (s.fgt1 i)
theorem WPS.fgt{K:W.Frag}{Xw:Nat→Hp→Prop}{F₀ H₀:Hp}{is:List Nat}{m:M Out}{Dn:Ends}(w:WPS K Xw F₀ H₀ (m>>=Ar (L3.fgt is)) Dn):WPS K Xw F₀ H₀ m Dn:=by
 match m,w with
 |none,w=>exact w
 |some (.ok (.nx ρ)),w=>exact fun σ F H s=>w σ F H (s.fgt is)
 |some (.ok (.rt d)),w=>exact w
 |some (.ex n),w=>exact w
section
variable{X:Cx}{Xw:Nat→Hp→Prop}{st:Stmt}{DI:List Stmt}{τ:DS}{is:List Nat}
theorem c7(h:PSDs X Xw DI τ):PSDs X Xw DI (f6 is τ):=fun F₀ H₀=>PSs.weak (h F₀ H₀) fun D σ H ⟨F,ρ,s,w⟩=>⟨F,ρ,s,WPS.fgt w⟩
end
def D4:Option Sl→Option Sl
 |some (.ow c)=>some (.fz c.d)
 |x=>x
def sU(ρ:aT):aT:=ρ.map D4
def refA(h:Heap)(P:Addr→Prop)[DecidablePred P](H:Hp):Hp:=fun b=>if P b then(H b).map (eG ((h.get? b).getD {cls:= .none,data:= .fields #[]})) else H b
theorem pY(ob:Obj)(o:HO):eG ob o=o∨((∃k,o= .dT k)∨∃k,o= .dK k)∧eG ob o= .frz ob o:=by
 cases o<;>first | exact .inl rfl | exact .inr ⟨.inl ⟨_,rfl⟩,rfl⟩ | exact .inr ⟨.inr ⟨_,rfl⟩,rfl⟩
section
variable{X:Cx}{pins:List (Addr×Obj)}{σ:St}{H:Hp}{s:Shared}{P:Addr→Prop}[DecidablePred P]
theorem dY{h:Heap}{b:Addr}(e:H b=none):refA h P H b=none:=by
 unfold refA;split
 ·rw[e];rfl
 ·exact e
theorem l8{h:Heap}{b:Addr}{o:HO}(e:H b=some o):refA h P H b=some o∨((∃k,o= .dT k)∨∃k,o= .dK k)∧P b∧refA h P H b=some (.frz ((h.get? b).getD {cls:= .none,data:= .fields #[]}) o):=by
 unfold refA;split
 ·rename_i hp
  rw[e]
  rcases pY ((h.get? b).getD {cls:= .none,data:= .fields #[]}) o with q | ⟨q1,q2⟩
  ·exact .inl (by show some _=_;rw[q])
  ·exact .inr ⟨q1,hp,by show some _=_;rw[q2]⟩
 ·exact .inl e
theorem dX{h:Heap}{b:Addr}{o:HO}(e:H b=some o)(n1:∀k,o≠ .dT k)(n2:∀k,o≠ .dK k):refA h P H b=some o:=by
 rcases l8 (P:=P) (h:=h) e with q | ⟨⟨k,q⟩ | ⟨k,q⟩,_⟩
 ·exact q
 ·exact absurd q (n1 k)
 ·exact absurd q (n2 k)
theorem Inv.refA(I:Inv X pins σ H s):Inv X pins σ (L3.refA s.heap P H) s:=by
 have obj:∀b o,H b=some o→((∃k,o=HO.dT k)∨∃k,o= .dK k)→∃ob,s.heap.get? b=some ob:=fun b o e hu=>by
  have hk:=I.hok b o e
  rcases hu with⟨k,h1⟩ | ⟨k,h1⟩
  ·subst h1;obtain⟨_,_,_,_,ob,_,_,q,_⟩:=hk;exact⟨ob,q⟩
  ·subst h1;obtain⟨_,_,_,_,ob,_,_,q,_⟩:=hk;exact⟨ob,q⟩
 refine⟨I.ok,I.os,I.bare,⟨I.base.keep,I.base.slot,fun b q h1 h2 h3=>dY (I.base.free b q h1 h2 h3),I.base.there,fun b xs q=>dX (I.base.tups b xs q) (fun _ z=>nomatch z) (fun _ z=>nomatch z),
  fun b q1 v q=>dX (I.base.frzs b q1 v q) (fun _ z=>nomatch z) (fun _ z=>nomatch z),fun b ps q=>?_⟩,I.loc,I.cell,dY I.free,fun x c q=>dY (I.freeC x c q),fun p hp=>?_,fun b v q=>?_,I.len⟩
 ·obtain⟨m,this⟩:=I.base.tbls b ps q
  exact⟨m,dX this (fun _ z=>nomatch z) (fun _ z=>nomatch z)⟩
 ·obtain⟨h1,h2,h3⟩:=I.pin p hp
  exact⟨h1,dY h2,h3⟩
 ·have st:∀{c:Addr}{v:HO},ObjOk X.prog X.w H s.heap c v→ObjOk X.prog X.w (L3.refA s.heap P H) s.heap c v:=fun {c v} k=>k.stay (fun _ _ _ q=>q)
   (fun c' q=>dX q (fun _ z=>nomatch z) (fun _ z=>nomatch z)) fun c' xs q=>dX q (fun _ z=>nomatch z) (fun _ z=>nomatch z)
  cases e:H b with
  |none=>rw[dY e] at q;cases q
  |some o=>
   rcases l8 (P:=P) (h:=s.heap) e with z | ⟨hu,hp,z⟩
   ·rw[z] at q;cases q;exact st (I.hok b _ e)
   ·rw[z] at q
    cases q
    obtain⟨ob,Af⟩:=obj b o e hu
    rw[Af]
    exact⟨Af,st (I.hok b o e)⟩
def unA(P:Addr→Prop)[DecidablePred P](H:Hp):Hp:=fun b=>if P b then(match H b with | some (.frz _ u)=>some u | x=>x) else H b
theorem Inv.unA(I:Inv X pins σ H s)(hP:∀b,P b→∀o u,X.H₀ b≠some (.frz o u))(hQ:∀b,P b→∀o u,H b=some (.frz o u)→(∃k,u= .dT k)∨∃k,u= .dK k):Inv X pins σ (L3.unA P H) s:=by
 have non:∀b,H b=none→L3.unA P H b=none:=fun b e=>by unfold L3.unA;rw[e];split<;>rfl
 have keep:∀b o,H b=some o→(∀q u,o≠ .frz q u)→L3.unA P H b=some o:=fun b o e n=>by
  unfold L3.unA;split
  ·rw[e];cases o<;>first | rfl | exact absurd rfl (n _ _)
  ·exact e
 refine⟨I.ok,I.os,I.bare,⟨I.base.keep,I.base.slot,fun b q h1 h2 h3=>non b (I.base.free b q h1 h2 h3),I.base.there,fun b xs q=>keep b _ (I.base.tups b xs q) (fun _ _ z=>nomatch z),
  fun b q1 v q=>?_,fun b ps q=>?_⟩,I.loc,I.cell,non _ I.free,fun x c q=>non _ (I.freeC x c q),fun p hp=>?_,fun b v q=>?_,I.len⟩
 ·have:=I.base.frzs b q1 v q
  unfold L3.unA
  rw[if_neg (fun hp=>hP b hp q1 v q)]
  exact this
 ·obtain⟨m,this⟩:=I.base.tbls b ps q
  exact⟨m,keep b _ this (fun _ _ z=>nomatch z)⟩
 ·obtain⟨h1,h2,h3⟩:=I.pin p hp
  exact⟨h1,non _ h2,h3⟩
 ·have st:∀{c:Addr}{v:HO},ObjOk X.prog X.w H s.heap c v→ObjOk X.prog X.w (L3.unA P H) s.heap c v:=fun {c v} k=>k.stay (fun _ _ _ q=>q)
   (fun c' q=>keep c' _ q (fun _ _ z=>nomatch z)) fun c' xs q=>keep c' _ q (fun _ _ z=>nomatch z)
  cases e:H b with
  |none=>rw[non b e] at q;cases q
  |some o=>
   have ko:=I.hok b o e
   by_cases hf:∃ob u,o= .frz ob u
   ·obtain⟨ob,u,rfl⟩:=hf
    unfold L3.unA at q
    split at q
    ·rw[e] at q
     cases q
     obtain⟨_,k2⟩:=ko
     exact st k2
    ·rw[e] at q;cases q;exact st ko
   ·rw[keep b o e (fun q u z=>hf ⟨q,u,z⟩)] at q
    cases q
    exact st ko
end
mutual
def tJ:D→Bool
 | .non=>true
 | .bl _=>true
 | .int _=>true
 | .str _=>true
 | .tup ds=>qS ds
 | .raw _=>false
 | .exc _=>false
 | .scr _=>false
 | .lst _=>false
 | .dct _ _=>false
 | .dci _ _=>false
def qS:List D→Bool
 |[]=>true
 |d::ds=>tJ d&&qS ds
end
def lA(d:D):M D:=if tJ d then M.ret d else M.stuck
def OwnAt(σ:St)(ρ:aT)(b:Addr):Prop:=∃(i:Nat) (c:C),ρ[i]? =some (some (Sl.ow c))∧σ[i]? =some (some (V.ref b))
section
variable{K:W.Frag}{F H F' H':Hp}{σ:St}{ρ:aT}{h:Heap}{b:Addr}
theorem OwnAt.obj(S:StE K F H σ ρ)(p:OwnAt σ ρ b):F b=none∧∃o,H b=some o∧((∃x,o= .lst x)∨(∃x,o= .dT x)∨∃x,o= .dK x):=by
 obtain⟨i,c,h1,h2⟩:=p
 obtain⟨v,h3,a,o,rfl,h4,h5,h6⟩:=S.den i _ h1
 rw[h3] at h2
 cases h2
 refine⟨h5,o,h4,?_⟩
 cases c with
 |lst ds=>obtain⟨vs,rfl,_⟩:=h6;exact .inl ⟨_,rfl⟩
 |dct ks ds=>obtain⟨vs,rfl,_⟩:=h6;exact .inr (.inl ⟨_,rfl⟩)
 |dci ks ds=>obtain⟨vs,rfl,_⟩:=h6;exact .inr (.inr ⟨_,rfl⟩)
open Classical in
noncomputable def fA(σ:St)(ρ:aT)(H1 F:Hp):Hp:=fun b=>if OwnAt σ ρ b then H1 b else F b
open Classical in
theorem qR(S:StE K F H σ ρ){H1:Hp}:Same F (fA σ ρ H1 F):=fun b u e=>by
 unfold fA
 rw[if_neg (fun p=>by rw[(OwnAt.obj S p).1] at e;cases e)]
 exact e
open Classical in
theorem tK(S:StE K F H σ ρ):StE K (fA σ ρ (refA h (OwnAt σ ρ) H) F) (refA h (OwnAt σ ρ) H) σ (sU ρ):=by
 refine⟨fun b u e=>?_,fun j sl e=>?_⟩
 ·unfold fA at e
  split at e
  ·exact e
  ·rename_i hp
   unfold refA
   rw[if_neg hp]
   exact S.fh b u e
 ·unfold sU at e
  rw[List.getElem?_map] at e
  cases q:ρ[j]? with
  |none=>rw[q] at e;cases e
  |some x=>
   rw[q] at e
   cases x with
   |none=>cases e
   |some y=>
    cases y with
    |fz d=>
     cases e
     obtain⟨v,h1,h2⟩:=S.den j _ q
     exact⟨v,h1,Den.mono (qR S) h2⟩
    |ow c=>
     cases e
     obtain⟨v,h1,a,o,rfl,h4,h5,h6⟩:=S.den j _ q
     refine⟨_,h1,DenC.den (ob:=(h.get? a).getD {cls:= .none,data:= .fields #[]}) h6 (qR S) ?_⟩
     have hp:OwnAt σ ρ a:=⟨j,c,q,h1⟩
     unfold fA refA
     rw[if_pos hp,if_pos hp,h4]
     rfl
open Classical in
theorem om(S:StE K F H σ ρ)(E:Ext (fA σ ρ (refA h (OwnAt σ ρ) H) F) (refA h (OwnAt σ ρ) H) F' H'):
 Ext F H (fun b=>if OwnAt σ ρ b then none else F' b) (unA (OwnAt σ ρ) H')∧∀b,OwnAt σ ρ b→∀o u,H' b=some (.frz o u)→(∃k,u= .dT k)∨∃k,u= .dK k:=by
 have C4:∀b,OwnAt σ ρ b→∃o,H b=some o∧H' b=some (eG ((h.get? b).getD {cls:= .none,data:= .fields #[]}) o)∧((∃x,o= .lst x)∨(∃x,o= .dT x)∨∃x,o= .dK x):=fun b hp=>by
  obtain⟨_,o,h1,h2⟩:=OwnAt.obj S hp
  refine⟨o,h1,E.hh b _ ?_,h2⟩
  unfold refA
  rw[if_pos hp,h1]
  rfl
 refine⟨⟨fun b o e=>?_,fun b u e=>?_,fun b u e=>?_,fun b hb=>?_⟩,fun b hp o u e=>?_⟩
 ·unfold unA
  by_cases hp:OwnAt σ ρ b
  ·obtain⟨o',h1,h2,h3⟩:=C4 b hp
   rw[e] at h1
   cases h1
   rw[if_pos hp,h2]
   rcases h3 with⟨x,rfl⟩ | ⟨x,rfl⟩ | ⟨x,rfl⟩<;>rfl
  ·rw[if_neg hp]
   refine E.hh b o ?_
   unfold refA
   rw[if_neg hp]
   exact e
 ·have hp:¬OwnAt σ ρ b:=fun p=>by rw[(OwnAt.obj S p).1] at e;cases e
  show (if OwnAt σ ρ b then none else F' b)=_
  rw[if_neg hp]
  refine E.ff b u ?_
  unfold fA
  rw[if_neg hp]
  exact e
 ·have e:(if OwnAt σ ρ b then none else F' b)=some u:=e
  split at e
  ·cases e
  ·rename_i hp
   unfold unA
   rw[if_neg hp]
   exact E.fh b u e
 ·show (if OwnAt σ ρ b then none else F' b)=F b∨_
  by_cases hp:OwnAt σ ρ b
  ·rw[if_pos hp]
   exact .inl (OwnAt.obj S hp).1.symm
  ·rw[if_neg hp]
   have e1:refA h (OwnAt σ ρ) H b=H b:=by unfold refA;rw[if_neg hp]
   have e2:fA σ ρ (refA h (OwnAt σ ρ) H) F b=F b:=by unfold fA;rw[if_neg hp]
   rcases E.new b (by rw[e1];exact hb) with q | q
   ·exact .inl (q.trans e2)
   ·rw[e1] at q;exact .inr q
 ·obtain⟨o',h1,h2,h3⟩:=C4 b hp
  rw[e] at h2
  rcases h3 with⟨x,rfl⟩ | ⟨x,rfl⟩ | ⟨x,rfl⟩
  ·cases h2
  ·cases h2;exact .inl ⟨_,rfl⟩
  ·cases h2;exact .inr ⟨_,rfl⟩
open Classical in
mutual
theorem og(S:StE K F H σ ρ)(E:Ext (fA σ ρ (refA h (OwnAt σ ρ) H) F) (refA h (OwnAt σ ρ) H) F' H'):∀{d:D}{v:V},tJ d=true→Den K F' d v→Den K (fun b=>if OwnAt σ ρ b then none else F' b) d v
 | .non,_,_,q=>q
 | .bl _,_,_,q=>q
 | .int _,_,_,q=>q
 | .str _,_,_,q=>q
 | .tup ds,_,f,⟨a,vs,h1,h2,h3,h4⟩=>by
   refine⟨a,vs,h1,?_,lB S E ?_ h3,h4⟩
   ·show (if OwnAt σ ρ a then none else F' a)=_
    rw[if_neg,h2]
    intro hp
    obtain⟨_,o,k1,k2⟩:=OwnAt.obj S hp
    have k3:fA σ ρ (refA h (OwnAt σ ρ) H) F a=some (eG ((h.get? a).getD {cls:= .none,data:= .fields #[]}) o):=by
     unfold fA refA
     rw[if_pos hp,if_pos hp,k1]
     rfl
    have k4:=E.ff a _ k3
    rw[h2] at k4
    rcases k2 with⟨x,rfl⟩ | ⟨x,rfl⟩ | ⟨x,rfl⟩<;>cases k4
   ·exact f
 | .raw _,_,f,_=>by cases f
 | .exc _,_,f,_=>by cases f
 | .scr _,_,f,_=>by cases f
 | .lst _,_,f,_=>by cases f
 | .dct _ _,_,f,_=>by cases f
 | .dci _ _,_,f,_=>by cases f
theorem lB(S:StE K F H σ ρ)(E:Ext (fA σ ρ (refA h (OwnAt σ ρ) H) F) (refA h (OwnAt σ ρ) H) F' H'):∀{ds:List D}{vs:List V},qS ds=true→DenL K F' ds vs→DenL K (fun b=>if OwnAt σ ρ b then none else F' b) ds vs
 |[],_,_,q=>q
 |d::ds,_,f,⟨v,r,h1,h2,h3⟩=>by
  unfold qS at f
  rw[Bool.and_eq_true] at f
  exact⟨v,r,h1,og S E f.1 h2,lB S E f.2 h3⟩
end
end
section
variable{X:Cx}{Xw:Nat→Hp→Prop}{e:Expr}{δ:DE}{τ:DT}
theorem lV{pins:List (Addr×Obj)}{s:Shared}{F H:Hp}{σ:St}{ρ:aT}(I:Inv X pins σ H s)(S:StE X.K F H σ ρ)(b:Addr)(p:OwnAt σ ρ b)(o:Obj)(u:HO):X.H₀ b≠some (.frz o u):=fun z=>by
 obtain⟨_,o',k1,k2⟩:=OwnAt.obj S p
 have:=I.base.frzs b o u z
 rw[k1] at this
 rcases k2 with⟨x,rfl⟩ | ⟨x,rfl⟩ | ⟨x,rfl⟩<;>cases this
theorem jV{α:Type}(m:M α):noex m=M.stuck∨∃a,m=M.ret a∧noex m=M.ret a:=by
 rcases m.cs with h | ⟨n,h⟩ | ⟨a,h⟩
 ·subst h;exact .inl rfl
 ·subst h;exact .inl rfl
 ·subst h;exact .inr ⟨a,rfl,rfl⟩
theorem yS(h:nS X Xw e τ):nS X Xw e (fun ρ=>noex (τ (sU ρ))):=fun pins s σ H Q I ⟨F,ρ,S,w⟩=>by
 classical
 rcases jV (τ (sU ρ)) with q | ⟨b,q,q2⟩
 ·have w:WPB Xw F H (noex (τ (sU ρ))) Q:=w
  rw[q] at w
  exact w.elim
 ·have w:WPB Xw F H (noex (τ (sU ρ))) Q:=w
  rw[q2] at w
  refine bC (h pins s σ _ (fun b' H'=>Q b' (unA (OwnAt σ ρ) H')∧∀c,OwnAt σ ρ c→∀o u,H' c=some (.frz o u)→(∃k,u= .dT k)∨∃k,u= .dK k) (Inv.refA (P:=OwnAt σ ρ) I) ⟨_,_,tK (h:=s.heap) S,?_⟩) fun b' s' ⟨H',I',q1,q3⟩=>⟨_,Inv.unA I' (lV I S) q3,q1⟩
  rw[q]
  intro H' F' E
  obtain⟨E1,q3⟩:=om S E
  exact⟨w _ _ E1,q3⟩
theorem Au(h:PD X Xw e δ):PD X Xw e (fun ρ=>noex (δ (sU ρ))>>=lA):=fun pins s σ H Q I ⟨F,ρ,S,w⟩=>by
 classical
 rcases jV (δ (sU ρ)) with q | ⟨d,q,q2⟩
 ·have w:WP X.K Xw F H (noex (δ (sU ρ))>>=lA) Q:=w
  rw[q] at w
  exact w.elim
 ·have w:WP X.K Xw F H (noex (δ (sU ρ))>>=lA) Q:=w
  rw[q2,ah] at w
  unfold lA at w
  split at w
  ·rename_i hf
   refine bC (h pins s σ _ (fun v H'=>Q v (unA (OwnAt σ ρ) H')∧∀c,OwnAt σ ρ c→∀o u,H' c=some (.frz o u)→(∃k,u= .dT k)∨∃k,u= .dK k) (Inv.refA (P:=OwnAt σ ρ) I) ⟨_,_,tK (h:=s.heap) S,?_⟩) fun b' s' ⟨v,H',I',rv,q1,q3⟩=>⟨v,_,Inv.unA I' (lV I S) q3,rv,q1⟩
   rw[q]
   intro v H' F' E dn
   obtain⟨E1,q3⟩:=om S E
   exact⟨w _ _ _ E1 (og S E hf dn),q3⟩
  ·exact w.elim
end
abbrev DF:=aT→M C
def WPF(K:W.Frag)(Xw:Nat→Hp→Prop)(F H:Hp)(m:M C)(Q:VK):Prop:=
 match m with
 |none=>False
 |some (.ok c)=>∀a o H' F',Ext F H F' H'→H' a=some o→F' a=none→H a=none→DenC K F' c o→Q (.ref a) H'
 |some (.ex n)=>∀F' H',Ext F H F' H'→Xw n H'
def EU(K:W.Frag)(Xw:Nat→Hp→Prop)(δ:DF):TE:=fun σ H Q=>∃F ρ,StE K F H σ ρ∧WPF K Xw F H (δ ρ) Q
def Bu(X:Cx)(Xw:Nat→Hp→Prop)(e:Expr)(δ:DF):Prop:=PE X e (EU X.K Xw δ)
theorem WPF.mono{K:W.Frag}{Xw:Nat→Hp→Prop}{F H:Hp}{m:M C}{Q Q':VK}(h:WPF K Xw F H m Q)(k:∀v H',Q v H'→Q' v H'):WPF K Xw F H m Q':=by
 match m,h with
 |none,h=>exact h
 |some (.ok d),h=>exact fun a o H' F' e h1 h2 h3 h4=>k _ _ (h a o H' F' e h1 h2 h3 h4)
 |some (.ex n),h=>exact h
theorem WPF.ext{K:W.Frag}{Xw:Nat→Hp→Prop}{F H F1 H1:Hp}{m:M C}{Q:VK}(e:Ext F H F1 H1)(h:WPF K Xw F H m Q):WPF K Xw F1 H1 m Q:=by
 match m,h with
 |none,h=>exact h
 |some (.ok d),h=>exact fun a o H' F' e' h1 h2 h3 h4=>h a o H' F' (e.trans e') h1 h2 (Same.free e.hh h3) h4
 |some (.ex n),h=>exact fun F2 H2 e2=>h F2 H2 (e.trans e2)
theorem WPF.bind{K:W.Frag}{Xw:Nat→Hp→Prop}{F H:Hp}{m:M D}{k:D→M C}{Q:VK}(h:WPF K Xw F H (m>>=k) Q):WP K Xw F H m fun v H1=>∃F1 d,Ext F H F1 H1∧Den K F1 d v∧WPF K Xw F1 H1 (k d) Q:=by
 match m,h with
 |none,h=>exact h
 |some (.ok d),h=>exact fun v H2 F2 e2 q=>⟨F2,d,e2,q,WPF.ext e2 (show WPF K Xw F H (k d) Q from h)⟩
 |some (.ex n),h=>exact h
section
variable{X:Cx}{Xw:Nat→Hp→Prop}{e k v a b:Expr}{es:List Expr}{δ δ':DF}{δk δv δa δb:DE}{δs:DA}{pos pos' p:Pos}{x:Str}{i:Nat}
theorem Ext.fresh{F H:Hp}{p:Addr}{o:HO}(s:Same F H)(hp:H p=none):Ext F H F (upd H p o)∧F p=none:=⟨Ext.free s hp,Same.free s hp⟩
theorem tq{pins:List (Addr×Obj)}{σ:St}{H H':Hp}{s:Shared}{a:Addr}{y v:V}{u r:Value}{A:Around}{E:Value→Shared→Prop}{Q:Unit→Shared→Prop}(hu:A.units+1<cLine)(I:Inv X pins σ H s)(g:DPut H a y v H')(ry:RelV y u)(rv:RelV v r)(h:∀s',Inv X pins σ H' s'→Q () s'):
 wpAny (model X.prog X.w) A (dictSet a u r) Q E s:=by
 rcases g with⟨aB,k,e,ey,l,eH⟩ | ⟨aB,k,b,e,ey,eb,l,eH⟩
 ·subst ey eH
  obtain⟨z,hd,vs,rel,dd⟩:=xi I.hok e
  have hz:vs.length≤sizeLine:=by rw[←rel.length];exact z
  have hl:(putK aB k v).length≤sizeLine:=by have:=dm aB k v;omega
  refine wpAny_dictSet_pairs (hsz:=hz) (jN ry) dd fun h' vB hs=>h _ ?_
  have he:∃q,h'.get? a=some q:=let ⟨q,_,_,hq,_⟩:=vB;⟨q,hq⟩
  exact jh I (by rw[e];exact True.intro) hs he (tB hl hd (rel.put k rv) vB)
 ·subst ey eH
  cases (show u=Value.ref b from ry)
  obtain⟨z,hd,xs,rel,dd⟩:=xj I.hok e
  have hz:xs.length≤sizeLine:=by rw[←Paired.length rel];exact z
  have hl:(putK aB k v).length≤sizeLine:=by have:=dm aB k v;omega
  refine wpAny_dictSet_heap (knd:=tupleKind (ba X.prog X.w)) (hsz:=hz) (by exact(show A.units<cLine by omega)) (fV I.hok eb) dd fun h' vB hs=>h _ ?_
  obtain⟨q,es,ep,hq,h2,h3,h4,_,h5⟩:=vB
  refine jh I (by rw[e];exact True.intro) hs ⟨q,hq⟩ ⟨hl,hd,_,(rel.put k eb rv).keeps fun c ys ec=>?_,q,es,ep,hq,h2,h3,h4,h5⟩
  rw[aq (xC ec e (fun z=>nomatch z))]
  exact ec
end
section
variable{X:Cx}{Xw:Nat→Hp→Prop}{e k v a b:Expr}{es:List Expr}{δk δv δa δb:DE}{δs:DA}{pos pos' p:Pos}{x:Str}{i:Nat}
theorem tw{o0:HO}{put:Hp→Addr→V→V→Hp→Prop}(hu:X.A.units+1<cLine)(h0:∀(H:Hp) (h:Heap),sysModules<h.objs.size→ObjOk X.prog X.w H (h.push {cls:= .type "dict",data:= .dict #[]}) h.objs.size o0){tk tv:TE}(hk:PE X k tk)(hv:PE X v tv):
 PE X (.Dict [some k] [v] pos) (fun σ H Q=>∀p,H p=none→tk σ (upd H p o0) fun y H1=>tv σ H1 fun z H2=>∃H3,DPut H2 p y z H3∧Q (.ref p) H3):=by
 intro pins s σ H Q I q
 have hn:=I.hok.fresh (Nat.le_refl s.heap.objs.size)
 have I1:=I.laid (a:=s.heap.objs.size) (o:=o0) (h':=s.heap.push {cls:= .type "dict",data:= .dict #[]}) (t':=s.toks) (fun _ _ q=>Heap.get?_push_of_some _ q) (Nat.le_refl _) (h0 _ s.heap I.big)
 refine wpAny_Dict_any rfl rfl (by simp) (by simp) (bC (j9 hk hv rk pins _ σ _ (fun ps H2=>∃y z H3,ps=[(y,z)]∧DPut H2 s.heap.objs.size y z H3∧Q (.ref s.heap.objs.size) H3) I1 ?_) fun ws s2 ⟨ps,H2,I2,rel,y,z,H3,ep,g,q2⟩=>?_)
 ·refine ?_
  have:=q _ hn
  show tk σ _ fun y H1=>tv σ H1 fun z H2=>∃y' z' H3,[(y,z)]=[(y',z')]∧DPut H2 s.heap.objs.size y' z' H3∧Q (.ref s.heap.objs.size) H3
  have e:(fun (y:V) (H1:Hp)=>tv σ H1 fun z H2=>∃y' z' H3,[(y,z)]=[(y',z')]∧DPut H2 s.heap.objs.size y' z' H3∧Q (.ref s.heap.objs.size) H3)=(fun y H1=>tv σ H1 fun z H2=>∃H3,DPut H2 s.heap.objs.size y z H3∧Q (.ref s.heap.objs.size) H3):=by
   funext y H1
   congr 1
   funext z H2
   refine propext ⟨fun ⟨y',z',H3,ee,r⟩=>?_,fun⟨H3,r⟩=>⟨y,z,H3,rfl,r⟩⟩
   cases ee
   exact⟨H3,r⟩
  rw[e]
  exact this
 ·subst ep
  cases rel with
  | @cons a b as bs h t=>
    cases t
    obtain⟨r1,r2⟩:=h
    unfold storeAll
    rw[List.forIn_cons]
    refine wpAny_bind (wpAny_bind (tq hu I2 g r1 r2 fun s3 I3=>?_))
    refine wpAny_pure ?_
    show wpAny _ _ (forIn ([]:List (Value×Value)) PUnit.unit _) _ _ _
    rw[List.forIn_nil]
    exact wpAny_pure ⟨V.ref s.heap.objs.size,_,I3,rfl,q2⟩
def n9(k v:D):M C:=match oE k with
 |some kk=>M.ret (.dct [kk] [v])
 |none=>M.stuck
theorem zy(hu:X.A.units+64<cLine)(hk:PD X Xw k δk)(hv:PD X Xw v δv):Bu X Xw (.Dict [some k] [v] pos) (fun ρ=>δk ρ>>=fun x=>δv ρ>>=fun y=>n9 x y):=
 PE.weak (tw (o0:= .dT []) (put:=DPut) (by omega) (fun H h hb=>tE h hb) hk hv) fun σ H Q ⟨F,ρ,s,w⟩ q hq=>by
  have e0:=Ext.free (o:= .dT []) s.fh hq
  refine⟨F,ρ,s.ext e0,?_⟩
  have w:WPF X.K Xw F H (δk ρ>>=fun x=>δv ρ>>=fun y=>n9 x y) Q:=w
  match xx:δk ρ,w with
  |none,w=>exact w
  |some (.ex n),w=>exact fun F' H' e'=>w F' H' (e0.trans e')
  |some (.ok kd),w=>
   intro y H1 F1 e1 q1
   refine⟨F1,ρ,(s.ext e0).ext e1,?_⟩
   have w:WPF X.K Xw F H (δv ρ>>=fun y=>n9 kd y) Q:=w
   match zx:δv ρ,w with
   |none,w=>exact w
   |some (.ex n),w=>exact fun F' H' e'=>w F' H' (e0.trans (e1.trans e'))
   |some (.ok vd),w=>
    intro z H2 F2 e2 q2
    have w3:WPF X.K Xw F H (n9 kd vd) Q:=w
    clear w
    unfold n9 at w3
    cases zw:oE kd with
    |none=>rw[zw] at w3;exact w3.elim
    |some kk=>
     rw[zw] at w3
     have E:=e1.trans e2
     have Ey:H2 q=some (.dT []):=E.hh _ _ ax
     have De:F2 q=none:=by
      have:=E.old (a:=q) (o:= .dT []) ax (fun _ z=>nomatch z)
      rw[this]
      exact Same.free s.fh hq
     unfold oE at zw
     split at zw
     ·rename_i es
      obtain⟨b,ws,rfl,k2,k3,_⟩:=Den.mono e2.ff q1
      have e5:=gp zw k3
      subst e5
      refine⟨_,DPut.t (k:=kk) Ey (e2.fh _ _ k2) (by rw[sizeLine_eq];decide),?_⟩
      refine w3 q (.dT (putK [] kk z)) _ F2 ⟨fun c u hc=>?_,(e0.trans E).ff,fun c u hc=>?_,(e0.trans E).new⟩ ax De hq ⟨[z],rfl, .cons q2 .nil,rfl,show 1≤lim by decide⟩
      ·rw[aq (fun zz=>by rw[zz,hq] at hc;cases hc)]
       exact(e0.trans E).hh c u hc
      ·rw[aq (fun zz=>by rw[zz,De] at hc;cases hc)]
       exact e2.fh c u hc
     ·cases zw
theorem qK{K:W.Frag}{F H:Hp}{d k:D}{x y:V}{o:Option D}(s:Same F H)(hd:Den K F d x)(hk:Den K F k y)(e:vn d k=some o):
 ∃a ov,x= .ref a∧jb H a y ov∧ov.isSome=o.isSome∧∀d',o=some d'→∃v,ov=some v∧Den K F d' v:=by
 obtain⟨a,ov,h1,h2,h3,h4⟩:=qL (σ:=[some x]) (ρ:=[some (.fz d)]) (i:=0) (H:=H) ⟨s,fun i sl q=>by
  match i,q with
  |0,q=>cases q;exact⟨x,rfl,hd⟩
  |i+1,q=>simp at q⟩ rfl hk e
 cases h1
 exact⟨a,ov,rfl,h2,h3,h4⟩
def ot(neg:Bool)(k d:D):M D:=match vn d k with
 |some o=>M.ret (.bl (if neg then !o.isSome else o.isSome))
 |none=>M.stuck
def AG(neg:Bool):R2:=fun y x H Q=>∃a o,x= .ref a∧jb H a y o∧Q (.bl (if neg then !o.isSome else o.isSome)) H
theorem sv(hu:X.A.units+64<cLine):OpR X (compareOp .NotIn) (AG true):=fun pins s σ H y x v u Q I ry rx ⟨a,o,ex,g,q⟩=>by
 subst ex
 obtain rfl:u=Value.ref a:=rx
 exact vA (by omega) I g ry fun s' I'=>⟨.bl (!o.isSome),_,I',rfl,q⟩
theorem wa{K:W.Frag}{neg:Bool}:pL K (AG neg) (ot neg):=fun Xw F H y x dk dd Q s hk hd w=>by
 unfold ot at w
 cases he:vn dd dk with
 |none=>rw[he] at w;exact w.elim
 |some o=>
  rw[he] at w
  obtain⟨a,ov,h1,h2,h3,_⟩:=qK s hd hk he
  refine⟨a,ov,h1,h2,?_⟩
  rw[h3]
  exact WP.now w s rfl
theorem sF(hu:X.A.units+64<cLine)(ha:PD X Xw a δa)(hb:PD X Xw b δb)(hm:behindInMarks .NotIn b=false:=by rfl):nS X Xw (.Compare a [.NotIn] [b] pos) (eu (d2 (ot true) δa δb)):=gL (sv hu) wa ha hb hm
end
section
variable{X:Cx}{pins:List (Addr×Obj)}{σ:St}{H:Hp}{s:Shared}{h':Heap}
end
section
variable{X:Cx}{Xw:Nat→Hp→Prop}{tg e:Expr}{es:List Expr}{δ δi:DE}{δs:DA}{pos p tp:Pos}{x1:Nat}
end
section
variable{X:Cx}{Xw:Nat→Hp→Prop}{tg l:Expr}{δ:DE}
end
end L3
namespace L3
open PySem
section
variable{prog:Program}{w:World}{K:Type}[DecidableEq K]{knd:HeapKind prog w K}{A:Around}{E:Value→Shared→Prop}{s:Shared}
end
end L3
namespace L3
open PySem PySem.Spec L2
open PyProof.Rows hiding St
section
variable{X:Cx}{pins:List (Addr×Obj)}{σ:St}{H:Hp}{s:Shared}{a b:Addr}{A:Around}{E:Value→Shared→Prop}
end
section
variable{X:Cx}{Xw:Nat→Hp→Prop}{o e f:Expr}{δ δo δe δf:DE}{pos p apos aP:Pos}{x:Str}{i:Nat}
end
section
variable{X:Cx}{Xw:Nat→Hp→Prop}{o e f:Expr}{δ δo δe δf:DE}{δs:DA}{pos p apos aP:Pos}{x:Str}{i:Nat}
def jJ:D→Bool
 | .dct _ _=>true
 | .dci _ _=>true
 |_=>false
theorem qV{K:W.Frag}{F H:Hp}{d:D}{x:V}(s:Same F H)(hd:Den K F d x)(e:jJ d=true):∃a,x= .ref a∧A1 H a:=by
 cases d with
 |dct ks ds=>obtain⟨a,ob,vs,rfl,h2,_⟩:=hd;exact⟨a,rfl, .inr ⟨_, .inr ⟨ob,s _ _ h2⟩⟩⟩
 |dci ks ds=>obtain⟨a,ob,vs,rfl,h2,_⟩:=hd;exact⟨a,rfl, .inl ⟨_, .inr ⟨ob,s _ _ h2⟩⟩⟩
 |_=>cases e
def getM(d k v:D):M D:=match vn d k with
 |some (some x)=>M.ret x
 |some none=>M.ret v
 |none=>M.stuck
def zP(δo δe:DE):DE:=fun ρ=>δo ρ>>=fun d=>if jJ d then δe ρ>>=fun k=>getM d k .non else M.stuck
def lx(δo δe δf:DE):DE:=fun ρ=>δo ρ>>=fun d=>if jJ d then δe ρ>>=fun k=>δf ρ>>=fun v=>getM d k v else M.stuck
theorem ou{F H:Hp}{d k v:D}{a:Addr}{y z:V}{Q:VK}(s:Same F H)(q1:Den X.K F d (.ref a))(q2:Den X.K F k y)(q3:Den X.K F v z)(w:WP X.K Xw F H (getM d k v) Q):∃ov,jb H a y ov∧Q (ov.getD z) H:=by
 unfold getM at w
 cases BS:vn d k with
 |none=>rw[BS] at w;exact w.elim
 |some o'=>
  rw[BS] at w
  obtain⟨a',ov,zz,h2,h3,h4⟩:=qK s q1 q2 BS
  cases zz
  refine⟨ov,h2,?_⟩
  cases o' with
  |none=>
   cases ov with
   |none=>exact WP.now w s q3
   |some _=>cases h3
  |some d'=>
   obtain⟨v,rfl,hv⟩:=h4 d' rfl
   exact WP.now w s hv
theorem Bj(hu:X.A.units+64<cLine)(ho:PD X Xw o δo)(he:PD X Xw e δe)(m:M1 X o "get" apos e aP):PD X Xw (.Call (.Attribute o "get" apos) [e] [] aP) (zP δo δe):=
 PE.weak (uK (by omega) ho he m) fun σ H Q ⟨F,ρ,s,w⟩=>by
  refine⟨F,ρ,s,WP.mono (WP.bind w) fun x H1 ⟨F1,d,e1,q1,w1⟩=>?_⟩
  split at w1
  ·rename_i hd
   obtain⟨a,rfl,Cr⟩:=qV e1.fh q1 hd
   refine⟨a,rfl,Cr,F1,ρ,s.ext e1,WP.mono (WP.bind w1) fun y H2 ⟨F2,k,e2,q2,w2⟩=>?_⟩
   exact ou (v:= .non) (z:= .non) e2.fh (Den.mono e2.ff q1) q2 (show V.non=V.non from rfl) w2
  ·exact w1.elim
theorem wt(hu:X.A.units+64<cLine)(ho:PD X Xw o δo)(he:PD X Xw e δe)(hf:PD X Xw f δf)(m:M2 X o "get" apos e f aP):PD X Xw (.Call (.Attribute o "get" apos) [e,f] [] aP) (lx δo δe δf):=
 PE.weak (uL (by omega) ho he hf m) fun σ H Q ⟨F,ρ,s,w⟩=>by
  refine⟨F,ρ,s,WP.mono (WP.bind w) fun x H1 ⟨F1,d,e1,q1,w1⟩=>?_⟩
  split at w1
  ·rename_i hd
   obtain⟨a,rfl,Cr⟩:=qV e1.fh q1 hd
   refine⟨a,rfl,Cr,F1,ρ,s.ext e1,WP.mono (WP.bind w1) fun y H2 ⟨F2,k,e2,q2,w2⟩=>?_⟩
   refine⟨F2,ρ,(s.ext e1).ext e2,WP.mono (WP.bind w2) fun z H3 ⟨F3,v,e3,q3,w3⟩=>?_⟩
   exact ou e3.fh (Den.mono e3.ff (Den.mono e2.ff q1)) (Den.mono e3.ff q2) q3 w3
  ·exact w1.elim
def iG:List D→M D
 |[.dci ks _]=>M.ret (.int ks.length)
 |_=>M.stuck
theorem pQ:CallR X (.builtin "len") (fun xs H Q=>∃a aB,xs=[.ref a]∧Rd H a (.dK aB)∧Q (.int aB.length) H):=by
 intro pins s σ H xs us Q I r ⟨a,aB,e,h,q⟩
 subst e
 obtain⟨u,rfl,ru⟩:=r.one
 cases (show u=_ from ru)
 exact zS I h fun t s' I'=>⟨.int aB.length,H,I',⟨_,rfl⟩,q⟩
theorem wx(hg:Gl X "len")(hm:X.mg "len"=none)(ha:kG X Xw [e] δs)(he:starEach [e] X.env=[(false,eval e X.env)]:=by rfl):PD X Xw (.Call (.Name "len" p) [e] [] pos) (dA iG δs):=
 eV pQ (fun Xw F H vs ds Q s h w=>by
  unfold iG at w
  split at w
  ·rename_i ks es
   obtain⟨v,rfl,h1⟩:=h.one
   obtain⟨a,ob,ws,rfl,h2,h3,h4,h5⟩:=h1
   refine⟨a,_,rfl, .inr ⟨ob,s _ _ h2⟩,?_⟩
   rw[nJ h3 h4,←h4]
   exact WP.now w s rfl
  ·exact w.elim) hg hm PySem.boot_len ha (by decide) (by decide) he rfl
end
section
variable{X:Cx}{Xw:Nat→Hp→Prop}{a b e D0:Expr}{δ δa δb δs:DE}{pos p2:Pos}
end
section
variable{prog:Program}{w:World}{A:Around}{E:Value→Shared→Prop}{s:Shared}
end
def tP:List Nat→xc
 |[]=>z0
 |i::is=>xm (tO i) (tP is)
theorem wU:∀{σ' σ:St},1<σ'.length→σ'.drop 2=σ→∀v1 v2:V,(σ'.set 0 (some v1)).set 1 (some v2)=[v1,v2].map some++σ
 |x1::x2::r,_,_,hd,v1,v2=>by subst hd;rfl
 |[],_,h,_,_,_=>by simp at h
 |[_],_,h,_,_,_=>by simp at h
theorem vU:∀{ds:List D},ds.length=2→∃a b,ds=[a,b]
 |[a,b],_=>⟨a,b,rfl⟩
 |[],h=>by simp at h
 |[_],h=>by simp at h
 |_::_::_::_,h=>by simp at h
theorem qC{X:Cx}{x y:Str}{px py pt:Pos}{x1:Nat}{σ:St}(hN:X.N.Nodup)(h0:X.N[0]? =some x)(h1:X.N[1]? =some y)(hx:X.env.scope.names.lookup x=some .local)(hy:X.env.scope.names.lookup y=some .local)(hc:X.calm=true)
 (hn:(assignEach [Expr.Name x px, .Name y py] X.env).length=2:=by rfl)(rT:(assignEach [Expr.Name x px, .Name y py] X.env).findIdx? (·.1)=none:=by rfl)
 (hs:(assignEach [Expr.Name x px, .Name y py] X.env).map (·.2)=assign (.Name x px) X.env::(assignEach [Expr.Name y py] X.env).map (·.2):=by rfl)(ED:(assignEach [Expr.Name y py] X.env).map (·.2)=assign (.Name y py) X.env::(assignEach [] X.env).map (·.2):=by rfl):rD X (.Tuple [.Name x px, .Name y py] x1 pt) 2 σ:=fun pins s σ' F H d ts v u I fh hd rv q e=>by
 cases d with
 |tup ds=>
  have e:(if ds.length=2 then M.ret ds else M.stuck)=M.ret ts:=e
  split at e
  ·rename_i hl
   obtain rfl:=eg e
   obtain⟨d1,d2,rfl⟩:=vU hl
   ·obtain⟨a,vs,rfl,EC,yh,_⟩:=q
    obtain⟨v1,v2,rfl,q1,q2⟩:=yh.two
    have G:PG X (.Tuple [.Name x px, .Name y py] x1 pt) (z3 X.K 2 (tP [0,1])):=y1 hc (o6 (b9 hN h0 (.inl hx) (.inr hx)) (o6 (b9 hN h1 (.inl hy) (.inr hy)) wD ED) hs) hn rT
    refine bC (G pins s σ' H (.ref a) u (fun σ2 H2=>H2=H∧σ2=(σ'.set 0 (some v1)).set 1 (some v2)) I rv ⟨a,[v1,v2],rfl,SqT.of (fh _ _ EC),rfl,v1,[v2],rfl,v2,[],rfl,rfl,rfl,rfl⟩) fun _ s2 ⟨σ2,H2,I2,e1,e2⟩=>?_
    subst e1 e2
    refine⟨[v1,v2],?_, .cons q1 (.cons q2 .nil)⟩
    have hl:1<σ'.length:=by rw[I.len];exact(List.getElem?_eq_some_iff.mp h1).1
    have:=wU hl (show σ'.drop 2=σ from hd) v1 v2
    rw[←this]
    exact I2
  ·exact(kr e).elim
 |_=>exact(kr e).elim
section
variable{prog:Program}{w:World}{A:Around}{E:Value→Shared→Prop}{s:Shared}
end
section
variable{prog:Program}{w:World}{A:Around}{E:Value→Shared→Prop}{s:Shared}
end
section
variable{X:Cx}{Xw:Nat→Hp→Prop}{a b e e2:Expr}{δa δb:DE}{δs:DA}{p pos:Pos}
end
mutual
def xh:D→Bool
 | .non=>true
 | .bl _=>true
 | .int _=>true
 | .str _=>true
 | .tup ds=>n8 ds
 | .lst ds=>n8 ds
 | .raw _=>false
 | .exc _=>false
 | .scr _=>false
 | .dct _ _=>false
 | .dci _ _=>false
def n8:List D→Bool
 |[]=>true
 |d::ds=>xh d&&n8 ds
end
def oZ(ρ:aT):Bool:=ρ.all fun x=>match x with
 |some (.ow (.lst _))=>false
 |_=>true
theorem uB{ρ:aT}{i:Nat}{ds:List D}(h:oZ ρ=true)(e:ρ[i]? =some (some (.ow (.lst ds)))):False:=by
 have:=List.all_eq_true.mp h _ (List.mem_of_getElem? e)
 cases this
section
variable{K:W.Frag}{F H F' H':Hp}{σ:St}{ρ:aT}{h:Heap}{b:Addr}
theorem OwnAt.dict(S:StE K F H σ ρ)(hd:oZ ρ=true)(p:OwnAt σ ρ b):∃o,H b=some o∧((∃x,o= .dT x)∨∃x,o= .dK x):=by
 obtain⟨i,c,h1,h2⟩:=p
 obtain⟨v,h3,a,o,rfl,h4,h5,h6⟩:=S.den i _ h1
 rw[h3] at h2
 cases h2
 refine⟨o,h4,?_⟩
 cases c with
 |lst ds=>exact(uB hd h1).elim
 |dct ks ds=>obtain⟨vs,rfl,_⟩:=h6;exact .inl ⟨_,rfl⟩
 |dci ks ds=>obtain⟨vs,rfl,_⟩:=h6;exact .inr ⟨_,rfl⟩
open Classical in
theorem q_(S:StE K F H σ ρ)(hd:oZ ρ=true)(E:Ext (fA σ ρ (refA h (OwnAt σ ρ) H) F) (refA h (OwnAt σ ρ) H) F' H'){a:Addr}{o:HO}(e:F' a=some o)(nP:∀q u,o≠ .frz q u):(if OwnAt σ ρ a then none else F' a)=some o:=by
 rw[if_neg,e]
 intro hp
 obtain⟨o',k1,k2⟩:=OwnAt.dict S hd hp
 have k3:fA σ ρ (refA h (OwnAt σ ρ) H) F a=some (eG ((h.get? a).getD {cls:= .none,data:= .fields #[]}) o'):=by
  unfold fA refA
  rw[if_pos hp,if_pos hp,k1]
  rfl
 have k4:=E.ff a _ k3
 rw[e] at k4
 rcases k2 with⟨x,rfl⟩ | ⟨x,rfl⟩<;>cases k4<;>exact nP _ _ rfl
open Classical in
mutual
theorem tu(S:StE K F H σ ρ)(hd:oZ ρ=true)(E:Ext (fA σ ρ (refA h (OwnAt σ ρ) H) F) (refA h (OwnAt σ ρ) H) F' H'):∀{d:D}{v:V},xh d=true→Den K F' d v→Den K (fun b=>if OwnAt σ ρ b then none else F' b) d v
 | .non,_,_,q=>q
 | .bl _,_,_,q=>q
 | .int _,_,_,q=>q
 | .str _,_,_,q=>q
 | .tup ds,_,f,⟨a,vs,h1,h2,h3,h4⟩=>⟨a,vs,h1,q_ S hd E h2 (fun _ _ z=>nomatch z),hX S hd E f h3,h4⟩
 | .lst ds,_,f,⟨a,vs,h1,h2,h3,h4⟩=>⟨a,vs,h1,q_ S hd E h2 (fun _ _ z=>nomatch z),hX S hd E f h3,h4⟩
 | .raw _,_,f,_=>by cases f
 | .exc _,_,f,_=>by cases f
 | .scr _,_,f,_=>by cases f
 | .dct _ _,_,f,_=>by cases f
 | .dci _ _,_,f,_=>by cases f
theorem hX(S:StE K F H σ ρ)(hd:oZ ρ=true)(E:Ext (fA σ ρ (refA h (OwnAt σ ρ) H) F) (refA h (OwnAt σ ρ) H) F' H'):∀{ds:List D}{vs:List V},n8 ds=true→DenL K F' ds vs→DenL K (fun b=>if OwnAt σ ρ b then none else F' b) ds vs
 |[],_,_,q=>q
 |d::ds,_,f,⟨v,r,h1,h2,h3⟩=>by
  unfold n8 at f
  rw[Bool.and_eq_true] at f
  exact⟨v,r,h1,tu S hd E f.1 h2,hX S hd E f.2 h3⟩
end
end
section
variable{X:Cx}{Xw:Nat→Hp→Prop}{e:Expr}{δ:DE}
end
def A7(δ:DE):DE:=fun ρ=>noex (δ (sU ρ))>>=lA
def CW(τ:DT):DT:=fun ρ=>noex (τ (sU ρ))
section
variable{X:Cx}{Xw:Nat→Hp→Prop}{st:Stmt}{τ:DS}{is:List Nat}
end
section
variable{X:Cx}{Xw:Nat→Hp→Prop}{a b e o:Expr}{δ δa δb δo:DE}{δl:DA}{pos apos aP:Pos}
def BG(x y:Str):Bool:=decide (0+y.length≤x.length)&&Builtin.Str.subAt x y (x.length - y.length)
def zu:D→List D→M D
 | .str x,[.str y]=>M.ret (.bl (BG x y))
 |_,_=>M.stuck
def kh(x:Str)(n:Nat):Str:=⟨(List.replicate n x.cps).foldl (· ++ ·) #[]⟩
def lF:D→D→M D
 | .str x, .int k=>if (0≤k∧k≤64)∧x.length*k.toNat≤lim then M.ret (.str (kh x k.toNat)) else M.stuck
 |_,_=>M.stuck
theorem o9(x:Str):∀(n:Nat) (a:Array Nat),((List.replicate n x.cps).foldl (· ++ ·) a).toList=a.toList++(List.replicate n x.cps.toList).flatten
 |0,a=>by simp
 |n+1,a=>by
  rw[List.replicate_succ,List.foldl_cons,o9 x n,List.replicate_succ,List.flatten_cons,Array.toList_append,List.append_assoc]
theorem du(x:Str)(n:Nat):(kh x n).cps.toList=(List.replicate n x.cps.toList).flatten:=by
 show ((List.replicate n x.cps).foldl (· ++ ·) #[]).toList=_
 rw[o9]
 rfl
theorem en{x y:Str}(h:x.cps.toList=y.cps.toList):x=y:=by
 obtain⟨⟨a⟩⟩:=x
 obtain⟨⟨b⟩⟩:=y
 cases (show a=b from h)
 rfl
theorem ki(x:Str)(n:Nat):(kh x n).length=x.length*n:=by
 show (kh x n).cps.toList.length=x.cps.toList.length*n
 rw[du]
 induction n with
 |zero=>simp
 |succ n ih=>rw[List.replicate_succ,List.flatten_cons,List.length_append,ih,Nat.mul_succ];omega
theorem u3(x:Str):kh x 1=x:=en (by rw[du];simp)
theorem u0{x:Str}(h:x.length=0)(n:Nat):kh x n=x:=by
 have e:=rA h
 subst e
 refine en ?_
 rw[du]
 induction n with
 |zero=>rfl
 |succ n ih=>rw[List.replicate_succ,List.flatten_cons,ih];rfl
theorem v_:OpR X (binaryOp .Mult) (fun x y H Q=>∃(z:Str) (k:Int),x= .str z∧y= .int k∧(0≤k∧k≤64)∧z.length*k.toNat≤lim∧Q (.str (kh z k.toNat)) H):=by
 intro pins s σ H x y v u Q I rx ry h
 obtain⟨z,k,rfl,rfl,hk,hl,q⟩:=h
 obtain⟨t,rfl⟩:=rx
 obtain⟨t2,rfl⟩:=ry
 have Ff:=cj
 refine PySem.P.mul_str (by simp;omega) (fun _ _=>?_) (fun _ _=>?_) ?_
 ·have h1:(2 ^ 63 - 1:Int) / 64≤(2 ^ 63 - 1) / k∨k=0:=by
   by_cases h0:k=0
   ·exact .inr h0
   ·exact .inl (Int.le_ediv_of_mul_le (by omega) (by have:(2 ^ 63 - 1:Int) / 64*k≤(2 ^ 63 - 1) / 64*64:=Int.mul_le_mul_of_nonneg_left hk.2 (by decide);exact Int.le_trans this (by decide)))
  rename_i Fg Ae
  have Dl:1≤k.toNat:=by omega
  have:z.length≤z.length*k.toNat:=Nat.le_mul_of_pos_right _ Dl
  have:(z.length:Int)≤lim:=by exact_mod_cast (by omega:z.length≤lim)
  rcases h1 with h1 | h1
  ·have h2:((lim:Nat):Int)≤(2 ^ 63 - 1:Int) / 64:=by decide
   omega
  ·omega
 ·unfold Builtin.Str.tooLong
  simp
  omega
 ·by_cases h1:k<1
  ·rw[if_pos h1]
   have h0:k=0:=by omega
   subst h0
   exact⟨by show 0≤_;exact Nat.zero_le _,⟨.str _,H,I.tok _,⟨_,rfl⟩,q⟩⟩
  ·rw[if_neg h1]
   by_cases h2:(k==1||z.length==0)=true
   ·rw[if_pos h2]
    have e:kh z k.toNat=z:=by
     rcases Bool.or_eq_true_iff.mp h2 with h3 | h3
     ·have:k=1:=by simpa using h3
      subst this
      exact u3 z
     ·exact u0 (by simpa using h3) _
    rw[e] at q
    exact⟨.str z,H,I,⟨t,rfl⟩,q⟩
   ·rw[if_neg h2]
    exact⟨by have:=ki z k.toNat;show (kh z k.toNat).length≤sizeLine;omega,⟨.str _,H,I.tok _,⟨_,rfl⟩,q⟩⟩
theorem wy(ha:PD X Xw a δa)(hb:PD X Xw b δb):PD X Xw (.BinOp a .Mult b pos) (d2 lF δa δb):=iX v_ (fun Xw F H x y dx dy Q s hx hy w=>by
 unfold lF at w
 split at w
 ·rename_i z k
  split at w
  ·rename_i hc
   exact⟨z,k,hx.1,hy,hc.1,hc.2,WP.now w s ⟨rfl,by rw[ki];exact hc.2⟩⟩
  ·exact w.elim
 ·exact w.elim) ha hb
end
def p0(x:Int):List Int→List Int
 |[]=>[x]
 |y::r=>if x≤y then x::y::r else y::p0 x r
def et:List Int→List Int
 |[]=>[]
 |x::r=>p0 x (et r)
theorem ic(x:Int):∀l,(p0 x l).Perm (x::l)
 |[]=>List.Perm.refl _
 |y::r=>by
  unfold p0
  split
  ·exact List.Perm.refl _
  ·exact((ic x r).cons y).trans (List.Perm.swap ..)
theorem cN:∀l,(et l).Perm l
 |[]=>List.Perm.refl _
 |x::r=>(ic x (et r)).trans ((cN r).cons x)
theorem oB{x:Int}:∀{l:List Int},l.Pairwise (· ≤ ·)→(p0 x l).Pairwise (· ≤ ·)
 |[],_=>by simp[p0]
 |y::r,h=>by
  rw[List.pairwise_cons] at h
  unfold p0
  split
  ·rename_i hx
   refine List.pairwise_cons.mpr ⟨fun z hz=>?_,List.pairwise_cons.mpr h⟩
   rcases List.mem_cons.mp hz with rfl | hz
   ·exact hx
   ·exact Int.le_trans hx (h.1 z hz)
  ·rename_i hx
   refine List.pairwise_cons.mpr ⟨fun z hz=>?_,oB h.2⟩
   rcases List.mem_cons.mp ((ic x r).mem_iff.mp hz) with rfl | hz
   ·omega
   ·exact h.1 z hz
theorem fy:∀l,(et l).Pairwise (· ≤ ·)
 |[]=>List.Pairwise.nil
 |x::r=>oB (fy r)
theorem mR:∀{a b:List Int},a.Perm b→a.Pairwise (· ≤ ·)→b.Pairwise (· ≤ ·)→a=b
 |[],b,h,_,_=>(List.nil_perm.mp h).symm
 |x::a,[],h,_,_=>absurd (List.perm_nil.mp h) (by simp)
 |x::a,y::b,h,h1,h2=>by
  rw[List.pairwise_cons] at h1 h2
  have e:x=y:=by
   have m1:x∈y::b:=h.mem_iff.mp (List.mem_cons_self ..)
   have m2:y∈x::a:=h.mem_iff.mpr (List.mem_cons_self ..)
   rcases List.mem_cons.mp m1 with z | z
   ·exact z
   ·rcases List.mem_cons.mp m2 with z' | z'
    ·exact z'.symm
    ·have:=h1.1 y z'
     have:=h2.1 x z
     omega
  subst e
  rw[mR (List.Perm.cons_inv h) h1.2 h2.2]
def ph:List D→M D
 |[.lst ds]=>match nums ds with
  |some ns=>if ns.length<64 then M.ret (.lst ((et ns).map D.int)) else M.stuck
  |none=>M.stuck
 |_=>M.stuck
theorem iZ:∀{us:List Value}{ns:List Int},IntsAre us ns→Vals (ns.map V.int) us
 |_,_, .nil=> .nil
 |_,_, .cons n t h=> .cons ⟨t,rfl⟩ (iZ h)
def AL(K:W.Frag):List V→Hp→VK→Prop:=fun xs H Q=>∃p ns,xs=[.ref p]∧SqL K H p (ns.map V.int)∧ns.length<64∧∀q:Addr,H q=none→Q (.ref q) (upd H q (.lst ((et ns).map V.int)))
section
variable{X:Cx}{Xw:Nat→Hp→Prop}{e:Expr}{δs:DA}{pos p:Pos}
theorem rL:CallR X (.builtin "sorted") (AL X.K):=by
 intro pins s σ H xs us Q I r h
 obtain⟨a,ns,rfl,hq,hn,q⟩:=h
 obtain⟨u,rfl,r1⟩:=r.one
 cases (show u=_ from r1)
 obtain⟨aH,rv,pl,hz⟩:=I.list hq
 have hl:=rv.length
 rw[List.length_map] at hl
 have hi:IntsAre aH ns:=by simpa using intsAre_of rv
 refine sorted_ints pl.isList hi (by omega) fun out ES h1 h2 h3=>?_
 have e:ES=et ns:=mR (h2.trans (cN ns).symm) h3 (fy ns)
 subst e
 obtain⟨c,hc⟩:=sortedAll_at s.heap aH out
 have yi:H (s.heap.objs.size+1)=none:=I.hok.fresh (Nat.le_succ _)
 refine⟨.ref (s.heap.objs.size+1),_,I.laid (a:=s.heap.objs.size+1) (t':=s.toks) (o:= .lst ((et ns).map V.int)) (fun b ob e=>sortedAll_old e) (Nat.le_succ _) ?_,rfl,q _ yi⟩
 exact⟨by rw[List.length_map,(cN ns).length_eq];have:=cj;unfold lim at this;omega,out.toList,c,iZ h1,by simpa using hc⟩
theorem ly{K:W.Frag}{F:Hp}:∀{xs:List Int},DenL K F (xs.map D.int) (xs.map V.int)
 |[]=> .nil
 |x::r=> .cons rfl ly
theorem rj(hg:Gl X "sorted")(hm:X.mg "sorted"=none)(hb:bootBuiltins "sorted"=some (.builtin "sorted"))(ha:kG X Xw [e] δs)(he:starEach [e] X.env=[(false,eval e X.env)]:=by rfl):PD X Xw (.Call (.Name "sorted" p) [e] [] pos) (dA ph δs):=
 eV rL (fun Xw F H vs ds Q s h w=>by
  unfold ph at w
  split at w
  ·rename_i ds
   obtain⟨v,rfl,h1⟩:=h.one
   obtain⟨a,ws,rfl,h2,h3,h4⟩:=h1
   split at w
   ·rename_i ns Bd
    split at w
    ·rename_i hok
     have e:=oC Bd h3
     subst e
     exact⟨a,ns,rfl,SqL.of (s _ _ h2),hok,fun q hq=>WP.fin w (Ext.lay s hq) ⟨q,_,rfl,ax,ly,by rw[List.length_map,(cN ns).length_eq];unfold lim;omega⟩⟩
    ·exact w.elim
   ·exact w.elim
  ·exact w.elim) hg hm hb ha (by decide) (by decide) he rfl
end
section
variable{X:Cx}{Xw:Nat→Hp→Prop}{a b e o k v k' v':Expr}{δ δa δb δo δk δv δk' δv':DE}{δl δs:DA}{pos apos aP p:Pos}
theorem sC(ha:PD X Xw a δa)(hb:PD X Xw b δb)(hm:behindInMarks .NotIn b=false:=by rfl):PD X Xw (.Compare a [.NotIn] [b] pos) (d2 (eJ true) δa δb):=qo mQ (fun Xw F H x y dx dy Q s hx hy w=>by
 unfold eJ at w
 split at w
 ·exact⟨_,_,hx.1,hy.1,WP.now w s rfl⟩
 ·exact w.elim) ha hb hm
def p3:List D→M D
 |[.bl b]=>M.ret (.int (if b then 1 else 0))
 |_=>M.stuck
theorem lj:CallR X (.type "int") (fun xs H Q=>∃b:Bool,xs=[.bl b]∧Q (.int (if b then 1 else 0)) H):=by
 intro pins s σ H xs us Q I r h
 obtain⟨b,rfl,q⟩:=h
 obtain⟨u,rfl,r1⟩:=r.one
 cases (show u=_ from r1)
 exact call_int_bool ⟨.int _,H,I.tok _,⟨_,rfl⟩,q⟩
theorem wu(hg:Gl X "int")(hm:X.mg "int"=none)(hb:bootBuiltins "int"=some (.type "int"))(ha:kG X Xw [e] δs)(he:starEach [e] X.env=[(false,eval e X.env)]:=by rfl):PD X Xw (.Call (.Name "int" p) [e] [] pos) (dA p3 δs):=
 il lj (fun Xw F H vs ds Q s h w=>by
  unfold p3 at w
  split at w
  ·obtain⟨v,rfl,h1⟩:=h.one
   exact⟨_,by rw[show v=_ from h1],WP.now w s rfl⟩
  ·exact w.elim) hg hm hb ha (by decide) (by decide) he rfl
theorem yR{δ:DF}(h:Bu X Xw e δ):PD X Xw e (fun ρ=>δ ρ>>=fun c=>M.ret c.d):=fun pins s σ H Q I ⟨F,ρ,S,w⟩=>by
 have w:WP X.K Xw F H (δ ρ>>=fun c=>M.ret c.d) Q:=w
 refine wpAny_mono (h pins s σ H (fun v H1=>∃c a o F1,v= .ref a∧Ext F H F1 H1∧H1 a=some o∧F1 a=none∧H a=none∧DenC X.K F1 c o∧WP X.K Xw F H (M.ret c.d) Q) I ⟨F,ρ,S,?_⟩) ?_ (fun _ _ z=>z)
 ·match q:δ ρ,w with
  |none,w=>exact w
  |some (.ex n),w=>exact w
  |some (.ok c),w=>exact fun a o H' F' E h1 h2 h3 h4=>⟨c,a,o,F',rfl,E,h1,h2,h3,h4,w⟩
 ·intro u s1 ⟨v,H1,I1,rv,c,a,o,F1,ev,E,h1,h2,h3,h4,w1⟩
  subst ev
  have ff:Same F1 (upd F1 a (eG ((s1.heap.get? a).getD {cls:= .none,data:= .fields #[]}) o)):=fun b o e=>by rw[aq (fun z=>by rw[z,h2] at e;cases e)];exact e
  have fh:Same (upd F1 a (eG ((s1.heap.get? a).getD {cls:= .none,data:= .fields #[]}) o)) (upd H1 a (eG ((s1.heap.get? a).getD {cls:= .none,data:= .fields #[]}) o)):=fun b o e=>by
   by_cases z:b=a
   ·rw[z,ax] at e⊢;exact e
   ·rw[aq z] at e⊢;exact E.fh b o e
  refine⟨.ref a,upd H1 a (eG ((s1.heap.get? a).getD {cls:= .none,data:= .fields #[]}) o),L3.Inv.refrz I1 h1 ?_,rv,w1 _ _ (upd F1 a (eG ((s1.heap.get? a).getD {cls:= .none,data:= .fields #[]}) o)) ⟨fun b u q=>?_,E.ff.trans ff,fh,fun b hb=>?_⟩ (DenC.den h4 ff ax)⟩
  ·cases c with
   |lst ds=>obtain⟨vs,rfl,_⟩:=h4;exact .inl rfl
   |dct ks ds=>obtain⟨vs,rfl,_⟩:=h4;exact .inr ⟨_,rfl, .inl ⟨_,rfl,rfl⟩⟩
   |dci ks ds=>obtain⟨vs,rfl,_⟩:=h4;exact .inr ⟨_,rfl, .inr ⟨_,rfl,rfl⟩⟩
  ·rw[aq (fun z=>by rw[z,h3] at q;cases q)];exact E.hh b u q
  ·rcases E.new b hb with q | q
   ·exact .inl (by rw[aq (fun z=>hb (by rw[z];exact h3))];exact q)
   ·exact .inr q
theorem rO{o0:HO}(hu:X.A.units+1<cLine)(h0:∀(H:Hp) (h:Heap),sysModules<h.objs.size→ObjOk X.prog X.w H (h.push {cls:= .type "dict",data:= .dict #[]}) h.objs.size o0){tk tv AY AZ:TE}(hk:PE X k tk)(hv:PE X v tv)(xx:PE X k' AY)(zx:PE X v' AZ):
 PE X (.Dict [some k,some k'] [v,v'] pos) (fun σ H Q=>∀p,H p=none→tk σ (upd H p o0) fun y H1=>tv σ H1 fun z H2=>AY σ H2 fun y' H3=>AZ σ H3 fun z' H4=>∃H5 H6,DPut H4 p y z H5∧DPut H5 p y' z' H6∧Q (.ref p) H6):=by
 intro pins s σ H Q I q
 have hn:=I.hok.fresh (Nat.le_refl s.heap.objs.size)
 have I1:=I.laid (a:=s.heap.objs.size) (o:=o0) (h':=s.heap.push {cls:= .type "dict",data:= .dict #[]}) (t':=s.toks) (fun _ _ q=>Heap.get?_push_of_some _ q) (Nat.le_refl _) (h0 _ s.heap I.big)
 refine wpAny_Dict_any rfl rfl (by simp) (by simp) (bC (j9 hk hv (j9 xx zx rk) pins _ σ _ (fun ps H4=>∃y z y' z' H5 H6,ps=[(y,z),(y',z')]∧DPut H4 s.heap.objs.size y z H5∧DPut H5 s.heap.objs.size y' z' H6∧Q (.ref s.heap.objs.size) H6) I1 ?_) fun ws s2 ⟨ps,H2,I2,rel,y,z,y',z',H5,H6,ep,g1,g2,q2⟩=>?_)
 ·have:=q _ hn
  show tk σ _ fun y H1=>tv σ H1 fun z H2=>AY σ H2 fun y' H3=>AZ σ H3 fun z' H4=>∃a b c d H5 H6,[(y,z),(y',z')]=[(a,b),(c,d)]∧DPut H4 s.heap.objs.size a b H5∧DPut H5 s.heap.objs.size c d H6∧Q (.ref s.heap.objs.size) H6
  have e:(fun (y:V) (H1:Hp)=>tv σ H1 fun z H2=>AY σ H2 fun y' H3=>AZ σ H3 fun z' H4=>∃a b c d H5 H6,[(y,z),(y',z')]=[(a,b),(c,d)]∧DPut H4 s.heap.objs.size a b H5∧DPut H5 s.heap.objs.size c d H6∧Q (.ref s.heap.objs.size) H6)=(fun y H1=>tv σ H1 fun z H2=>AY σ H2 fun y' H3=>AZ σ H3 fun z' H4=>∃H5 H6,DPut H4 s.heap.objs.size y z H5∧DPut H5 s.heap.objs.size y' z' H6∧Q (.ref s.heap.objs.size) H6):=by
   funext y H1
   congr 1
   funext z H2
   congr 1
   funext y' H3
   congr 1
   funext z' H4
   refine propext ⟨fun ⟨a,b,c,d,H5,H6,ee,r⟩=>?_,fun⟨H5,H6,r⟩=>⟨y,z,y',z',H5,H6,rfl,r⟩⟩
   cases ee
   exact⟨H5,H6,r⟩
  rw[e]
  exact this
 ·subst ep
  cases rel with
  | @cons a1 w1 E7 E_ h t=>
   cases t with
   | @cons a2 w2 E8 Fb h2 t2=>
    cases t2
    obtain⟨r1,r2⟩:=h
    obtain⟨r3,r4⟩:=h2
    unfold storeAll
    rw[List.forIn_cons]
    refine wpAny_bind (wpAny_bind (tq hu I2 g1 r1 r2 fun s3 I3=>?_))
    refine wpAny_pure ?_
    show wpAny _ _ (forIn [w2] PUnit.unit _) _ _ _
    rw[List.forIn_cons]
    refine wpAny_bind (wpAny_bind (tq hu I3 g2 r3 r4 fun s4 I4=>?_))
    refine wpAny_pure ?_
    show wpAny _ _ (forIn ([]:List (Value×Value)) PUnit.unit _) _ _ _
    rw[List.forIn_nil]
    exact wpAny_pure ⟨V.ref s.heap.objs.size,_,I4,rfl,q2⟩
def eF(x y x' y':D):M C:=match mG x,mG x' with
 |some a,some b=>M.ret (if a=b then .dci [a] [y'] else .dci [a,b] [y,y'])
 |_,_=>M.stuck
theorem qr(hu:X.A.units+64<cLine)(hk:PD X Xw k δk)(hv:PD X Xw v δv)(xx:PD X Xw k' δk')(zx:PD X Xw v' δv'):
 Bu X Xw (.Dict [some k,some k'] [v,v'] pos) (fun ρ=>δk ρ>>=fun x=>δv ρ>>=fun y=>δk' ρ>>=fun x'=>δv' ρ>>=fun y'=>eF x y x' y'):=
 PE.weak (rO (o0:= .dK []) (by omega) (fun H h hb=>n_ h hb) hk hv xx zx) fun σ H Q ⟨F,ρ,s,w⟩ q hq=>by
  have e0:=Ext.free (o:= .dK []) s.fh hq
  refine⟨F,ρ,s.ext e0,?_⟩
  have w:WPF X.K Xw F H (δk ρ>>=fun x=>δv ρ>>=fun y=>δk' ρ>>=fun x'=>δv' ρ>>=fun y'=>eF x y x' y') Q:=w
  match Dl:δk ρ,w with
  |none,w=>exact w
  |some (.ex n),w=>exact fun F' H' e'=>w F' H' (e0.trans e')
  |some (.ok kd),w=>
   intro y H1 F1 e1 q1
   refine⟨F1,ρ,(s.ext e0).ext e1,?_⟩
   have w:WPF X.K Xw F H (δv ρ>>=fun y=>δk' ρ>>=fun x'=>δv' ρ>>=fun y'=>eF kd y x' y') Q:=w
   match Fi:δv ρ,w with
   |none,w=>exact w
   |some (.ex n),w=>exact fun F' H' e'=>w F' H' (e0.trans (e1.trans e'))
   |some (.ok vd),w=>
    intro z H2 F2 e2 q2
    refine⟨F2,ρ,((s.ext e0).ext e1).ext e2,?_⟩
    have w:WPF X.K Xw F H (δk' ρ>>=fun x'=>δv' ρ>>=fun y'=>eF kd vd x' y') Q:=w
    match Fe:δk' ρ,w with
    |none,w=>exact w
    |some (.ex n),w=>exact fun F' H' e'=>w F' H' (e0.trans (e1.trans (e2.trans e')))
    |some (.ok Ct),w=>
     intro y' H3 F3 e3 q3
     refine⟨F3,ρ,(((s.ext e0).ext e1).ext e2).ext e3,?_⟩
     have w:WPF X.K Xw F H (δv' ρ>>=fun y'=>eF kd vd Ct y') Q:=w
     match Fj:δv' ρ,w with
     |none,w=>exact w
     |some (.ex n),w=>exact fun F' H' e'=>w F' H' (e0.trans (e1.trans (e2.trans (e3.trans e'))))
     |some (.ok E4),w=>
      intro z' H4 F4 e4 q4
      have w3:WPF X.K Xw F H (eF kd vd Ct E4) Q:=w
      clear w
      unfold eF at w3
      cases Bc:mG kd with
      |none=>rw[Bc] at w3;exact w3.elim
      |some ka=>
       cases B4:mG Ct with
       |none=>rw[Bc,B4] at w3;exact w3.elim
       |some kb=>
        rw[Bc,B4] at w3
        have E:=e1.trans (e2.trans (e3.trans e4))
        have Ez:H4 q=some (.dK []):=E.hh _ _ ax
        have Df:F4 q=none:=by
         have:=E.old (a:=q) (o:= .dK []) ax (fun _ z=>nomatch z)
         rw[this]
         exact Same.free s.fh hq
        have e5:=eN Bc (Den.mono (e2.trans (e3.trans e4)).ff q1)
        subst e5
        have e6:=eN B4 (Den.mono e4.ff q3)
        subst e6
        have d2:=Den.mono (e3.trans e4).ff q2
        refine⟨_,_,DPut.k (k:=ka) Ez (by rw[sizeLine_eq];decide),DPut.k (k:=kb) ax (by rw[sizeLine_eq];simp[putK]),?_⟩
        have ext:∀o1 o2:HO,Ext F H F4 (upd (upd H4 q o1) q o2):=fun o1 o2=>⟨fun c u hc=>by
         have nP:c≠q:=fun zz=>by rw[zz,hq] at hc;cases hc
         rw[aq nP,aq nP]
         exact(e0.trans E).hh c u hc,(e0.trans E).ff,fun c u hc=>by
         have nP:c≠q:=fun zz=>by rw[zz,Df] at hc;cases hc
         rw[aq nP,aq nP]
         exact e4.fh c u hc,(e0.trans E).new⟩
        refine w3 q _ _ F4 (ext _ _) ax Df hq ?_
        by_cases BP:ka=kb
        ·subst BP
         rw[if_pos rfl]
         exact⟨[z'],by simp[putK], .cons q4 .nil,rfl,show 1≤lim by decide⟩
        ·rw[if_neg BP]
         exact⟨[z,z'],by simp[putK,BP], .cons d2 (.cons q4 .nil),rfl,show 2≤lim by decide⟩
def mq(a b c d:DE):DE:=fun ρ=>(a ρ>>=fun x=>b ρ>>=fun y=>c ρ>>=fun x'=>d ρ>>=fun y'=>eF x y x' y')>>=fun c=>M.ret c.d
theorem uE(hu:X.A.units+64<cLine)(hk:PD X Xw k δk)(hv:PD X Xw v δv)(xx:PD X Xw k' δk')(zx:PD X Xw v' δv'):PD X Xw (.Dict [some k,some k'] [v,v'] pos) (mq δk δv δk' δv'):=yR (qr hu hk hv xx zx)
end
section
variable{X:Cx}{Xw:Nat→Hp→Prop}{a b e:Expr}{δ δa δb:DE}{δs:DA}{pos p:Pos}
def vF(neg:Bool):D→D→M D
 | .bl x, .bl y=>M.ret (.bl (if neg then !(x==y) else x==y))
 |_,_=>M.stuck
theorem v9:OpR X (compareOp .IsNot) (fun x y H Q=>∃i j:Bool,x= .bl i∧y= .bl j∧Q (.bl (!(i==j))) H):=by
 intro pins s σ H x y v u Q I rx ry h
 obtain⟨i,j,rfl,rfl,q⟩:=h
 cases rx
 cases ry
 exact wpAny_isNot_plain rfl ⟨.bl _,H,I,by cases i<;>cases j<;>rfl,q⟩
theorem vM{K:W.Frag}{neg:Bool}{g:Bool→Bool→Bool}(hg:∀i j,g i j=if neg then !(i==j) else i==j):pL K (fun x y H Q=>∃i j:Bool,x= .bl i∧y= .bl j∧Q (.bl (g i j)) H) (vF neg):=fun Xw F H x y dx dy Q s hx hy w=>by
 unfold vF at w
 split at w
 ·exact⟨_,_,hx,hy,by rw[hg];exact WP.now w s rfl⟩
 ·exact w.elim
theorem wO(ha:PD X Xw a δa)(hb:PD X Xw b δb):nS X Xw (.Compare a [.IsNot] [b] pos) (eu (d2 (vF true) δa δb)):=gL v9 (vM fun _ _=>rfl) ha hb
theorem kA:∀{xs:List V}{us:List Value},xs.length=us.length→(∀(i:Nat) x u,xs[i]? =some x→us[i]? =some u→RelV x u)→Vals xs us
 |[],[],_,_=> .nil
 |x::xs,u::us,hl,h=> .cons (h 0 x u rfl rfl) (kA (by simpa using hl) fun i y v e1 e2=>h (i+1) y v (by simpa using e1) (by simpa using e2))
theorem qG{x:Str}{acc:Array Value}(h:ItemsOf (SignAt x) acc x.cps.size):Vals (x.cps.toList.map fun c=>V.str ⟨#[c]⟩) acc.toList:=by
 obtain⟨h1,h2⟩:=h
 refine kA (by simp[h1]) fun i v u e1 e2=>?_
 obtain⟨c,t,e3,rfl⟩:=h2 i u (by rw[←Array.getElem?_toList];exact e2)
 rw[List.getElem?_map,Array.getElem?_toList,e3] at e1
 cases e1
 exact⟨t,rfl⟩
def ua:List D→M D
 |[.str x]=>if x.length≤lim then M.ret (.lst (signs x)) else M.stuck
 |_=>M.stuck
theorem pR(hc:X.calm=true):CallR X (.type "list") (fun xs H Q=>∃x:Str,xs=[.str x]∧x.length≤lim∧∀l,H l=none→Q (.ref l) (upd H l (.lst (x.cps.toList.map fun c=>V.str ⟨#[c]⟩)))):=by
 intro pins s σ H xs us Q I r h
 obtain⟨x,rfl,hl,q⟩:=h
 obtain⟨u,rfl,r1⟩:=r.one
 obtain⟨t,rfl⟩:=r1
 have hz:x.cps.size≤sizeLine:=by have:=cj;have:x.cps.size≤lim:=hl;omega
 refine call_list_str (I.ok.hd hc) x t (fun h' tk BB c' kp e hi=>?_) hz
 refine⟨.ref s.heap.objs.size,_,I.laid (t':=tk) kp ?_ (show ObjOk X.prog X.w _ h' _ (.lst (x.cps.toList.map fun c=>V.str ⟨#[c]⟩)) from⟨by simpa using hz,BB.toList,c',qG hi,by simpa using e⟩),rfl,q _ (I.hok.fresh (Nat.le_refl _))⟩
 exact Nat.le_refl _
theorem jD{K:W.Frag}{F:Hp}:∀l:List Nat,DenL K F (l.map fun c=>D.str ⟨#[c]⟩) (l.map fun c=>V.str ⟨#[c]⟩)
 |[]=> .nil
 |c::l=> .cons ⟨rfl,by show 1≤lim;decide⟩ (jD l)
theorem uF(hc:X.calm=true)(hg:Gl X "list")(hm:X.mg "list"=none)(hb:bootBuiltins "list"=some (.type "list"))(ha:kG X Xw [e] δs)(he:starEach [e] X.env=[(false,eval e X.env)]:=by rfl):PD X Xw (.Call (.Name "list" p) [e] [] pos) (dA ua δs):=
 il (pR hc) (fun Xw F H vs ds Q s h w=>by
  unfold ua at w
  split at w
  ·rename_i x
   obtain⟨v,rfl,h1⟩:=h.one
   obtain⟨h1,h2⟩:=h1
   subst h1
   rw[if_pos h2] at w
   exact⟨x,rfl,h2,fun l hq=>WP.fin w (Ext.lay s hq) ⟨l,_,rfl,ax,jD _,by unfold signs;rw[List.length_map,Array.length_toList];exact h2⟩⟩
  ·exact w.elim) hg hm hb ha (by decide) (by decide) he rfl
end
end L3
namespace L3
def CI(n:Nat)(δs:DA):DS:=fun _=>M.stuck
end L3
namespace K1
open PySem PySem.Spec L2 L3
open PyProof.Rows hiding St
def qJ:DS:=(bh (cG (dA ez (aC (dV 0) (aC (dC (.raw (.ty "int"))) aN))) (xg (dA ez (aC (dV 0) (aC (dC (.raw (.ty "bool"))) aN))))))
def bf:List D→M D:=bV 1 (qJ)
def pD:DS:=(bh (cG (dA ez (aC (dV 0) (aC (dC (.raw (.ty "str"))) aN))) (cG (d2 jl (dA bg (aC (dV 0) aN)) (dC (.int 1))) (d2 (eJ false) (dV 0) (dC (.str "abcdef"))))))
def bo:List D→M D:=bV 1 (pD)
def kC:DS:=(bh (aW 0 (fun ρ=>(aC (dA bg (aC (d2 bB (dV 0) (dC (.int 0))) aN)) aN) ρ>>=gP) bc (dA dS (aC (dV 2) (aC (dV 0) aN)))))
def bA:List D→M D:=bV 2 (kC)
def pH:DS:=(bh (d2 fC (d2 bB (dV 0) (d2 bB (dV 1) (dC (.int 0)))) (d2 bB (dV 1) (dC (.int 1)))))
def dh:List D→M D:=bV 2 (pH)
def kE:DS:=(aS (g7 (eu (d2 jl (dV 0) (dA eR aN))) (bh (d2 eK (dC (.int 7)) (dV 1))) c9) (bh (d2 cR (d2 tM (dV 0) (d2 gn (dV 1) (dA bg (aC (dV 0) aN)))) (d2 eK (dC (.int 6553)) (d2 kJ (dV 1) (dA bg (aC (dV 0) aN)))))))
def c4:List D→M D:=bV 2 (kE)
def pE:DS:=(aS (g7 (kI (bN (bO (dA ez (aC (dV 0) (aC (dC (.raw (.ty "str"))) aN))))) (bN (eu (pS (fun i j=>decide (i≤j)) (fun i j=>decide (i≤j)) (dC (.int 1)) (dA bg (aC (dV 0) aN)) (dC (.int 8)))))) (bh (dC (.bl false))) c9) (bh (dA allM (aC (aW 0 (fun ρ=>(dV 0) ρ>>=gS) bc (ak 1 bo (aC (dV 0) aN))) aN))))
def c3:List D→M D:=bV 1 (pE)
def mf:DS:=(aS (g7 (kI (bN (bO (dA ez (aC (dV 1) (aC (dC (.raw (.ty "tuple"))) aN))))) (eu (d2 nN (dA bg (aC (dV 1) aN)) (dC (.int 2))))) (bh (dC (.bl false))) c9) (aS (g7 (kI (bN (bO (ak 1 bf (aC (d2 bB (dV 1) (dC (.int 0))) aN)))) (bN (bO (ak 1 bf (aC (d2 bB (dV 1) (dC (.int 1))) aN))))) (bh (dC (.bl false))) c9) (bh (cG (pS (fun i j=>decide (i≤j)) (fun i j=>decide (i<j)) (dC (.int 0)) (d2 bB (dV 1) (dC (.int 0))) (dA bg (aC (dV 0) aN))) (pS (fun i j=>decide (i≤j)) (fun i j=>decide (i<j)) (dC (.int 0)) (d2 bB (dV 1) (dC (.int 1))) (dA bg (aC (d2 bB (dV 0) (dC (.int 0))) aN)))))))
def fm:List D→M D:=bV 2 (mf)
def pC:DS:=(aS (ze 1) (aS (fun ρ=>noex ((iy (putN 2) (fun ρ=>(aC (dA bg (aC (dV 0) aN)) aN) ρ>>=gP) (f6 [2] (u7 1 (ak 2 bA (aC (dV 0) (aC (dV 2) aN)))))) ρ)) (AO 1 (bh (dV 1)))))
def bP:List D→M D:=bV 3 (pC)
def i1:DS:=(aS (cS 3 (d2 gn (d2 cR (d2 eK (d2 gn (ak 2 c4 (aC (dV 0) (aC (dV 1) aN))) (dC (.int 2147483563))) (dC (.int 69069))) (d2 eK (dC (.int 104723)) (d2 cR (dV 1) (dC (.int 1))))) (dC (.int 2147483563)))) (aS (cS 3 (d2 gn (d2 cR (d2 eK (dV 3) (dV 3)) (d2 kJ (dV 3) (dC (.int 3)))) (dC (.int 2147483399)))) (bh (d2 gn (d2 kJ (d2 gn (d2 cR (d2 eK (dV 3) (dV 3)) (d2 kJ (dV 3) (dC (.int 7)))) (dC (.int 2147483647))) (dC (.int 11))) (dV 2)))))
def aF:List D→M D:=bV 4 (i1)
def kD:DS:=(aS (g7 (kI (bN (bO (dA ez (aC (dV 0) (aC (dC (.raw (.ty "tuple"))) aN))))) (bN (eu (pS (fun i j=>decide (i≤j)) (fun i j=>decide (i≤j)) (dC (.int 1)) (dA bg (aC (dV 0) aN)) (dC (.int 8)))))) (bh (dC (.bl false))) c9) (aS (g7 (bN (bO (dA allM (aC (aW 0 (fB (dV 0)) bc (ak 1 c3 (aC (dV 0) aN))) aN)))) (bh (dC (.bl false))) c9) (bh (dA allM (aC (aW 0 (fB (dV 0)) bc (d2 jl (dA bg (aC (dV 0) aN)) (dA bg (aC (d2 bB (dV 1) (dC (.int 0))) aN)))) aN)))))
def d5:List D→M D:=bV 1 (kD)
def pI:DS:=(g7 (bN (bO (ak 2 fm (aC (dV 0) (aC (dV 1) aN))))) (CI 2 (aC (dC (.str "a tuple (row, column) on the board is asked for")) aN)) c9)
def di:List D→M D:=bV 2 (pI)
def pF:DS:=(aS (cS 3 (d2 cR (dC (.int 1)) (ak 3 aF (aC (dV 0) (aC (dV 1) (aC (dV 2) aN)))))) (aS (cS 4 (d2 cR (dC (.int 1)) (ak 3 aF (aC (dV 0) (aC (d2 cR (dV 1) (dC (.int 1))) (aC (dV 2) aN)))))) (aS (cS 5 (d2 fU (dA eR (aC (dC (.str "ab")) (aC (dC (.str "abc")) (aC (dC (.str "aab")) (aC (dC (.str "fa")) aN))))) (ak 3 aF (aC (dV 0) (aC (d2 cR (dV 1) (dC (.int 2))) (aC (dC (.int 4)) aN)))))) (aS (cS 6 (dA dS aN)) (aS (fun ρ=>noex ((iy (putN 7) (fun ρ=>(aC (dV 3) aN) ρ>>=gP) (f6 [7,8] (aS (cS 8 (aW 0 (fun ρ=>(aC (dV 4) aN) ρ>>=gP) bc (d2 fC (dV 6) (ak 3 aF (aC (dV 1) (aC (d2 cR (d2 cR (d2 cR (dV 2) (dC (.int 3))) (d2 eK (dC (.int 7)) (dV 8))) (dV 0)) (aC (dA bg (aC (dV 6) aN)) aN))))))) (cS 6 (d2 oq (dV 6) (dA dS (aC (dM jL joinM (dC (.str "")) (aC (dV 8) aN)) aN))))))) ρ)) (bh (dV 6)))))))
def bD:List D→M D:=bV 9 (pF)
def nK:DS:=(g7 (bN (bO (ak 1 d5 (aC (dV 0) aN)))) (CI 0 (aC (dC (.str "a tuple of 1 to 8 texts of 1 to 8 letters, all as long, is asked for")) aN)) c9)
def aE:List D→M D:=bV 1 (nK)
def w_:DS:=(aS (gQ (ak 1 aE (aC (dV 0) aN))) (bh (ak 1 bP (aC (dV 0) aN))))
def b7:List D→M D:=bV 1 (w_)
def kF:DS:=(bh (dA pA (aC (aW 0 (fB (pU (dV 0) (oS (dV 1)) (oS (d2 cR (dV 3) (dC (.int 1)))))) bc (pU (dV 0) (oS (dV 3)) (oS (d2 cR (dV 5) (dC (.int 1)))))) aN)))
def cx:List D→M D:=bV 5 (kF)
def nM:DS:=(aS (ze 2) (aS (fun ρ=>noex ((iy (putN 3) (fB (dV 0)) (f6 [3] (u6 2 (dM jL joinM (dC (.str "")) (aC (aW 0 (fun ρ=>(dV 3) ρ>>=gS) bc (lx (dV 2) (dV 0) (dV 0))) aN))))) ρ)) (AO 2 (bh (dA pA (aC (dV 2) aN))))))
def bT:List D→M D:=bV 4 (nM)
def k8:DS:=(g7 (bN (bO (ak 1 bo (aC (dV 0) aN)))) (CI 3 (aC (dC (.str "one of the letters a to f is asked for")) aN)) c9)
def bY:List D→M D:=bV 1 (k8)
def sQ:DS:=(aS (cS 3 (d2 vG (d2 cR (d2 bB (dV 2) (dC (.int 0))) (dA bg (aC (dV 1) aN))) (dC (.int 1)))) (aS (cS 4 (d2 vG (d2 cR (d2 bB (dV 2) (dC (.int 1))) (dA bg (aC (d2 bB (dV 1) (dC (.int 0))) aN))) (dC (.int 1)))) (bh (d2 jl (ak 5 cx (aC (dV 0) (aC (d2 bB (dV 2) (dC (.int 0))) (aC (d2 bB (dV 2) (dC (.int 1))) (aC (dV 3) (aC (dV 4) aN)))))) (dV 1)))))
def c0:List D→M D:=bV 5 (sQ)
def k7:DS:=(bh (dA dS (aC (ak 3 aF (aC (dV 0) (aC (dV 1) (aC (dA bg (aC (dV 2) aN)) aN)))) (aC (ak 3 aF (aC (dV 0) (aC (d2 cR (dV 1) (dC (.int 1))) (aC (dA bg (aC (d2 bB (dV 2) (dC (.int 0))) aN)) aN)))) aN))))
def bH:List D→M D:=bV 3 (k7)
def pG:DS:=(aS (gQ (ak 1 aE (aC (dV 0) aN))) (aS (gQ (ak 2 di (aC (dV 0) (aC (dV 1) aN)))) (bh (ak 2 dh (aC (dV 0) (aC (dV 1) aN))))))
def bE:List D→M D:=bV 2 (pG)
def sP:DS:=(aS (gQ (ak 1 aE (aC (dV 0) aN))) (aS (cS 1 (dM jL joinM (dC (.str "")) (aC (dV 0) aN))) (bh (aW 0 (fun ρ=>(dC (.str "abcdef")) ρ>>=gS) (eu (d2 (eJ false) (dV 0) (dV 2))) (dA dS (aC (dV 0) (aC (dM jL nZ (dV 2) (aC (dV 0) aN)) aN)))))))
def aQ:List D→M D:=bV 2 (sP)
def qI:DS:=(aS (gQ (ak 1 aE (aC (dV 0) aN))) (aS (gQ (ak 1 aE (aC (dV 1) aN))) (bh (aW 0 (mr (ak 1 bP (aC (dV 0) aN))) (bO (ak 3 c0 (aC (dV 1) (aC (dV 2) (aC (dV 0) aN))))) (dV 0)))))
def bQ:List D→M D:=bV 2 (qI)
def nL:DS:=(aS (gQ (ak 1 aE (aC (dV 0) aN))) (aS (xM 1) (aS (fun ρ=>noex ((iy (putN 2) (fun ρ=>(dM jL joinM (dC (.str "")) (aC (dV 0) aN)) ρ>>=gS) (f6 [2] (g7 (CW (eu (d2 (ot true) (dV 2) (dV 1)))) (rq 1 (dV 2) (A7 (d2 fC (dC (.str "abcdef")) (dA iG (aC (dV 1) aN))))) c9))) ρ)) (AO 1 (bh (ak 2 bT (aC (dV 0) (aC (dV 1) aN))))))))
def aO:List D→M D:=bV 3 (nL)
def sR:DS:=(aS (gQ (ak 1 aE (aC (dV 0) aN))) (aS (gQ (ak 1 bY (aC (dV 1) aN))) (aS (gQ (ak 1 bY (aC (dV 2) aN))) (bh (ak 2 bT (aC (dV 0) (aC (mq (dV 1) (dV 2) (dV 2) (dV 1)) aN)))))))
def cu:List D→M D:=bV 3 (sR)
def qH:DS:=(bh (d2 jl (ak 1 aO (aC (dV 0) aN)) (ak 1 aO (aC (dV 1) aN))))
def aU:List D→M D:=bV 2 (qH)
def i2:DS:=(cS 1 (ak 3 bD (aC (dV 0) (aC (dC (.int 0)) (aC (dC (.int 5)) aN)))))
def i3:DS:=(cS 2 (ak 3 bD (aC (dV 0) (aC (dC (.int 60)) (aC (dC (.int 3)) aN)))))
def i4:DS:=(cS 3 (ak 1 aO (aC (dV 1) aN)))
def i5:DS:=(g7 (eu (d2 nN (dA ph (aC (aW 2 (mr (ak 1 aQ (aC (dV 3) aN))) bc (dV 1)) aN)) (dA ph (aC (aW 2 (mr (ak 1 aQ (aC (dV 1) aN))) bc (dV 1)) aN)))) (bh (dC (.bl false))) c9)
def i6:DS:=(g7 (eu (d2 nN (aW 2 (mr (ak 1 aQ (aC (dV 3) aN))) bc (dV 0)) (dA ua (aC (pU (dC (.str "abcdef")) oN (oS (dA bg (aC (ak 1 aQ (aC (dV 1) aN)) aN)))) aN)))) (bh (dC (.bl false))) c9)
def i7:DS:=(fun ρ=>noex ((iy (putN 4) (mr (ak 1 b7 (aC (dV 1) aN))) (f6 [4,5] (iy (putN 5) (fB (dA dS (aC (d2 fU (ak 1 b7 (aC (dV 1) aN)) (dC (.int 0))) (aC (d2 fU (ak 1 b7 (aC (dV 1) aN)) (d1 yE (dC (.int 1)))) (aC (ak 3 bH (aC (dV 0) (aC (dC (.int 90)) (aC (dV 1) aN)))) aN))))) (f6 [5] (g7 (eu (d2 nN (d2 jl (ak 2 bE (aC (dV 3) (aC (dV 4) aN))) (ak 2 bE (aC (dV 3) (aC (dV 5) aN)))) (d2 jl (ak 2 bE (aC (dV 1) (aC (dV 4) aN))) (ak 2 bE (aC (dV 1) (aC (dV 5) aN)))))) (bh (dC (.bl false))) c9))))) ρ))
def i8:DS:=(cS 6 (dC (.str "")))
def i9:DS:=(fun ρ=>noex ((iy (putN 7) (fun ρ=>(dM jL joinM (dC (.str "")) (aC (dV 3) aN)) ρ>>=gS) (f6 [7] (cS 6 (d2 oo (dV 6) (d2 lF (dV 7) (dA p3 (aC (d2 (eJ true) (dV 7) (dV 6)) aN))))))) ρ))
def i_:DS:=(g7 (eu (d2 nN (dV 6) (pU (dC (.str "abcdef")) oN (oS (dA bg (aC (dV 6) aN)))))) (bh (dC (.bl false))) c9)
def ja:DS:=(cS 8 (ak 3 cu (aC (ak 3 cu (aC (dV 2) (aC (dC (.str "a")) (aC (dC (.str "c")) aN)))) (aC (dC (.str "c")) (aC (dC (.str "b")) aN)))))
def gY:DS:=(g7 (kI (bN (bO (ak 2 aU (aC (dV 2) (aC (dV 8) aN))))) (eu (d2 nN (ak 2 aU (aC (dV 1) (aC (dV 2) aN))) (ak 2 aU (aC (dV 2) (aC (dV 1) aN)))))) (bh (dC (.bl false))) c9)
def gZ:DS:=(g7 (eu (d2 nN (ak 2 aU (aC (dV 1) (aC (dV 8) aN))) (ak 2 aU (aC (dV 1) (aC (dV 2) aN))))) (bh (dC (.bl false))) c9)
def g0:DS:=(g7 (eu (d2 (vF true) (ak 2 aU (aC (dV 3) (aC (dV 1) aN))) (dC (.bl true)))) (bh (dC (.bl false))) c9)
def g4:DS:=(g7 (eu (d2 nN (ak 2 bQ (aC (dV 3) (aC (dV 3) aN))) (dA eR (aC (dA dS (aC (dC (.int 0)) (aC (dC (.int 0)) aN))) aN)))) (bh (dC (.bl false))) c9)
def g5:DS:=(g7 (eu (d2 nN (d2 jl (ak 2 bQ (aC (dV 1) (aC (dV 3) aN))) (dA eR (aC (dA dS (aC (dC (.int 0)) (aC (dC (.int 0)) aN))) aN))) (d2 jl (dV 3) (dV 1)))) (bh (dC (.bl false))) c9)
def g6:DS:=(bh (cG (d2 jl (ak 1 aO (aC (dV 8) aN)) (ak 1 aO (aC (dV 2) aN))) (d2 jl (ak 3 cu (aC (dV 1) (aC (dC (.str "d")) (aC (dC (.str "d")) aN)))) (dV 1))))
def iC:DS:=(aS i2 (aS i3 (aS i4 (aS i5 (aS i6 (aS i7 (aS i8 (aS i9 (aS i_ (aS ja (aS gY (aS gZ (aS g0 (aS g4 (aS g5 g6)))))))))))))))
def fo:List D→M D:=bV 9 iC
def top(i:Nat):Stmt:=PySem.Challenge.pw_cellpatches_k85_whole_letters.main.body.getD i (.Pass ⟨0,0,0,0⟩)
structure Bl (K:W.Frag) (mg:Str→Option Value) (base:Heap) (cv:Nat→Value) (cA:Nat→Addr) (Cp:Addr):Prop where
 len:mg "len"=none
 isinstance:mg "isinstance"=none
 all:mg "all"=none
 range:mg "range"=none
 str:mg "str"=none
 int:mg "int"=none
 bool:mg "bool"=none
 tuple:mg "tuple"=none
 list:mg "list"=none
 sorted:mg "sorted"=none
 LETTERS:∃t,mg "LETTERS"=some (.str "abcdef" t)
 MOST_ROWS:∃t,mg "MOST_ROWS"=some (.int 8 t)
 MOST_COLUMNS:∃t,mg "MOST_COLUMNS"=some (.int 8 t)
section
variable{P:Program}{w:World}{K:W.Frag}{mg:Str→Option Value}{base:Heap}{cv:Nat→Value}{cA:Nat→Addr}{Cp:Addr}{f:Addr}
abbrev f9:Stmt:=top 9
def jT:List Str:=["thing"]
def j3:List Str:=["thing"]
theorem pe:FnScope jT j3 (af f9):=⟨rfl,rfl,rfl,by decide+kernel,rfl,by decide+kernel,by decide+kernel⟩
theorem oX(B:Bl K mg base cv cA Cp)(T:bx K mg "is_whole" f9 f):aj P w K mg base cv 1 "is_whole" 1 (bf):=
 ay (N:=jT) (ps:=j3) T pe (fun _ _ _ _ _ _ us hl=>match us,hl with | [_],_=>rfl) fun aY A outer s H E hr=>
  (ao (aw (j5 (ip rfl B.isinstance rfl (aa (ab (pv 0)) (aa (l6 rfl B.int rfl) ae))) (mW (yQ (ip rfl B.isinstance rfl (aa (ab (pv 0)) (aa (l6 rfl B.bool rfl) ae))))))))
abbrev e9:Stmt:=top 10
def iI:List Str:=["thing"]
def iR:List Str:=["thing"]
theorem ng:FnScope iI iR (af e9):=⟨rfl,rfl,rfl,by decide+kernel,rfl,by decide+kernel,by decide+kernel⟩
theorem mK(B:Bl K mg base cv cA Cp)(T:bx K mg "is_letter" e9 f):aj P w K mg base cv 1 "is_letter" 1 (bo):=
 ay (N:=iI) (ps:=iR) T ng (fun _ _ _ _ _ _ us hl=>match us,hl with | [_],_=>rfl) fun aY A outer s H E hr=>
  (ao (aw (j5 (ip rfl B.isinstance rfl (aa (ab (pv 0)) (aa (l6 rfl B.str rfl) ae))) (j5 (fO hr.units (bF rfl B.len (aa (ab (pv 0)) ae)) au) (mW (yN (ab (pv 0)) (mX rfl B.LETTERS (by decide))))))))
abbrev cE:Stmt:=top 17
def cy:List Str:=["board","row"]
def eS:List Str:=["board","row"]
theorem jf:FnScope cy eS (af cE):=⟨rfl,rfl,rfl,by decide+kernel,rfl,by decide+kernel,by decide+kernel⟩
theorem jc(B:Bl K mg base cv cA Cp)(T:bx K mg "cells_of_row" cE f):aj P w K mg base cv 1 "cells_of_row" 2 (bA):=
 ay (N:=cy) (ps:=eS) T jf (fun _ _ _ _ _ _ us hl=>match us,hl with | [_,_],_=>rfl) fun aY A outer s H E hr=>
  (ao (aw (cB (tn:=["column"]) (n:=0) (bj (N:=cy) (osc:=(af cE)) rfl rfl (by decide+kernel)) rfl rfl (d_ rfl B.range (aa (bF rfl B.len (aa (bW (ab (pv 0)) au) ae)) ae)) (fun _ _ _ _ _ _ _=>cY (show List.Nodup (((["column"]:List Str))++bZ ["column"] cy) by decide+kernel) rfl rfl) (fun _ _ _ _ _ _=>b6) (fun _ _ _ _ _ _=>(eX (aa (ab (pv 2)) (aa (ab (pv 0)) ae)))))))
abbrev fc:Stmt:=top 19
def iL:List Str:=["board","cell"]
def iV:List Str:=["board","cell"]
theorem ni:FnScope iL iV (af fc):=⟨rfl,rfl,rfl,by decide+kernel,rfl,by decide+kernel,by decide+kernel⟩
theorem mO(B:Bl K mg base cv cA Cp)(T:bx K mg "letter_of" fc f):aj P w K mg base cv 1 "letter_of" 2 (dh):=
 ay (N:=iL) (ps:=iV) T ni (fun _ _ _ _ _ _ us hl=>match us,hl with | [_,_],_=>rfl) fun aY A outer s H E hr=>
  (ao (aw (qq (bW (ab (pv 0)) (bW (ab (pv 1)) au)) (bW (ab (pv 1)) au))))
abbrev cF:Stmt:=top 24
def cz:List Str:=["board","top","left","low","right"]
def eT:List Str:=["board","top","left","low","right"]
theorem jg:FnScope cz eT (af cF):=⟨rfl,rfl,rfl,by decide+kernel,rfl,by decide+kernel,by decide+kernel⟩
theorem jd(B:Bl K mg base cv cA Cp)(T:bx K mg "part_between" cF f):aj P w K mg base cv 1 "part_between" 5 (cx):=
 ay (N:=cz) (ps:=eT) T jg (fun _ _ _ _ _ _ us hl=>match us,hl with | [_,_,_,_,_],_=>rfl) fun aY A outer s H E hr=>
  (ao (aw (o4 rfl B.tuple rfl (aa (cB (tn:=["row"]) (n:=0) (bj (N:=cz) (osc:=(af cF)) rfl rfl (by decide+kernel)) rfl rfl (gJ (ri (ab (pv 0)) (dW (ab (pv 1))) (dW (bR (ab (pv 3)) au)))) (fun _ _ _ _ _ _ _=>cY (show List.Nodup (((["row"]:List Str))++bZ ["row"] cz) by decide+kernel) rfl rfl) (fun _ _ _ _ _ _=>b6) (fun _ _ _ _ _ _=>(ri (ab (pv 0)) (dW (ab (pv 3))) (dW (bR (ab (pv 5)) au))))) ae))))
abbrev cX:Stmt:=top 26
def cW:List Str:=["board","names","told","row"]
def gF:List Str:=["board","names"]
theorem dJ:FnScope cW gF (af cX):=⟨rfl,rfl,rfl,by decide+kernel,rfl,by decide+kernel,by decide+kernel⟩
theorem kQ(B:Bl K mg base cv cA Cp)(T:bx K mg "with_names" cX f):aj P w K mg base cv 1 "with_names" 2 (bT):=
 ay (N:=cW) (ps:=gF) T dJ (fun _ _ _ _ _ _ us hl=>match us,hl with | [_,_],_=>rfl) fun aY A outer s H E hr=>
  (av (rl dJ.nd rfl (by first | exact .inl rfl | exact .inr rfl)) (av (fw (ef PassesOwn.never rfl (gJ (ab (pv 0))) (b9 dJ.nd rfl (by first | exact .inl rfl | exact .inr rfl)) c8 (c7 (ao (wJ (pv 2) (gG bJ (aa (cB (tn:=["sign"]) (n:=0) (bj (N:=cW) (osc:=(af cX)) rfl rfl (by decide+kernel)) rfl rfl (gH (ab (pv 3))) (fun _ _ _ _ _ _ _=>cY (show List.Nodup (((["sign"]:List Str))++bZ ["sign"] cW) by decide+kernel) rfl rfl) (fun _ _ _ _ _ _=>b6) (fun _ _ _ _ _ _=>(wt hr.units (ab (pv 2)) (ab (pv 0)) (ab (pv 0)) ⟨rfl,rfl,rfl,rfl⟩))) ae))))))) (ao (mZ (i:=2) (aw (o4 rfl B.tuple rfl (aa (ab (pv 2)) ae)))))))
abbrev f_:Stmt:=top 32
def jU:List Str:=["_law_script","_law_k"]
def j4:List Str:=["_law_script","_law_k"]
theorem pf:FnScope jU j4 (af f_):=⟨rfl,rfl,rfl,by decide+kernel,rfl,by decide+kernel,by decide+kernel⟩
theorem oY(B:Bl K mg base cv cA Cp)(T:bx K mg "_law_cell" f_ f):aj P w K mg base cv 1 "_law_cell" 2 (c4):=
 ay (N:=jU) (ps:=j4) T pf (fun _ _ _ _ _ _ us hl=>match us,hl with | [_,_],_=>rfl) fun aY A outer s H E hr=>
  (av (bG (AA hr.units (ab (pv 0)) (mV ae)) (ao (aw (fZ au (ab (pv 1))))) bb) (ao (aw (bR (yO (ab (pv 0)) (iq (ab (pv 1)) (bF rfl B.len (aa (ab (pv 0)) ae)))) (fZ au (mU (ab (pv 1)) (bF rfl B.len (aa (ab (pv 0)) ae))))))))
abbrev gR:Stmt:=top 11
def gw:List Str:=["thing"]
def o3:List Str:=["thing"]
theorem sH:FnScope gw o3 (af gR):=⟨rfl,rfl,rfl,by decide+kernel,rfl,by decide+kernel,by decide+kernel⟩
theorem su(B:Bl K mg base cv cA Cp)(eE:aj P w K mg base cv 1 "is_letter" 1 bo)(T:bx K mg "is_row" gR f):aj P w K mg base cv 2 "is_row" 1 (c3):=
 ay (N:=gw) (ps:=o3) T sH (fun _ _ _ _ _ _ us hl=>match us,hl with | [_],_=>rfl) fun aY A outer s H E hr=>
  (av (bG (PDW.t (j6 (b8 (cC (ip rfl B.isinstance rfl (aa (ab (pv 0)) (aa (l6 rfl B.str rfl) ae))))) (gK (b8 (uS lT lT au (bF rfl B.len (aa (ab (pv 0)) ae)) (rf rfl B.MOST_COLUMNS)))))) (ao (aw c6)) bb) (ao (aw (qm rfl rfl B.all rfl (aa (cB (tn:=["sign"]) (n:=0) (bj (N:=gw) (osc:=(af gR)) rfl rfl (by decide+kernel)) rfl rfl (gH (ab (pv 0))) (fun _ _ _ _ _ _ _=>cY (show List.Nodup (((["sign"]:List Str))++bZ ["sign"] gw) by decide+kernel) rfl rfl) (fun _ _ _ _ _ _=>b6) (fun _ _ _ _ _ _=>(aR eE (hr.mono (by decide)) rfl dU (aa (ab (pv 0)) ae) rfl))) ae)))))
abbrev iz:Stmt:=top 13
def lN:List Str:=["board","thing"]
def lW:List Str:=["board","thing"]
theorem qw:FnScope lN lW (af iz):=⟨rfl,rfl,rfl,by decide+kernel,rfl,by decide+kernel,by decide+kernel⟩
theorem qf(B:Bl K mg base cv cA Cp)(jv:aj P w K mg base cv 1 "is_whole" 1 bf)(T:bx K mg "is_cell" iz f):aj P w K mg base cv 2 "is_cell" 2 (fm):=
 ay (N:=lN) (ps:=lW) T qw (fun _ _ _ _ _ _ us hl=>match us,hl with | [_,_],_=>rfl) fun aY A outer s H E hr=>
  (av (bG (PDW.t (j6 (b8 (cC (ip rfl B.isinstance rfl (aa (ab (pv 1)) (aa (l6 rfl B.tuple rfl) ae))))) (gK (gM hr.units (bF rfl B.len (aa (ab (pv 1)) ae)) au)))) (ao (aw c6)) bb) (av (bG (PDW.t (j6 (b8 (cC (aR jv (hr.mono (by decide)) rfl aG (aa (bW (ab (pv 1)) au) ae) rfl))) (gK (b8 (cC (aR jv (hr.mono (by decide)) rfl aG (aa (bW (ab (pv 1)) au) ae) rfl)))))) (ao (aw c6)) bb) (ao (aw (j5 (uD lT xF au (bW (ab (pv 1)) au) (bF rfl B.len (aa (ab (pv 0)) ae))) (mW (uD lT xF au (bW (ab (pv 1)) au) (bF rfl B.len (aa (bW (ab (pv 0)) au) ae)))))))))
abbrev dH:Stmt:=top 16
def fL:List Str:=["thing"]
def fN:List Str:=["thing"]
theorem km:FnScope fL fN (af dH):=⟨rfl,rfl,rfl,by decide+kernel,rfl,by decide+kernel,by decide+kernel⟩
theorem jZ(B:Bl K mg base cv cA Cp)(eE:aj P w K mg base cv 1 "is_letter" 1 bo)(T:bx K mg "need_letter" dH f):aj P w K mg base cv 2 "need_letter" 1 (bY):=
 ay (N:=fL) (ps:=fN) T km (fun _ _ _ _ _ _ us hl=>match us,hl with | [_],_=>rfl) fun aY A outer s H E hr=>
  (ao (bG (b8 (cC (aR eE (hr.mono (by decide)) rfl aG (aa (ab (pv 0)) ae) rfl))) (ao ir) bb))
abbrev e8:Stmt:=top 18
def iH:List Str:=["board","found","row"]
def iQ:List Str:=["board"]
theorem ek:FnScope iH iQ (af e8):=⟨rfl,rfl,rfl,by decide+kernel,rfl,by decide+kernel,by decide+kernel⟩
theorem mJ(B:Bl K mg base cv cA Cp)(ju:aj P w K mg base cv 1 "cells_of_row" 2 bA)(T:bx K mg "all_cells" e8 f):aj P w K mg base cv 2 "all_cells" 1 (bP):=
 ay (N:=iH) (ps:=iQ) T ek (fun _ _ _ _ _ _ us hl=>match us,hl with | [_],_=>rfl) fun aY A outer s H E hr=>
  (av (rl ek.nd rfl (by first | exact .inl rfl | exact .inr rfl)) (av (fw (ef PassesOwn.never rfl (d_ rfl B.range (aa (bF rfl B.len (aa (ab (pv 0)) ae)) ae)) (b9 ek.nd rfl (by first | exact .inl rfl | exact .inr rfl)) c8 (c7 (ao (wK (pv 1) (aR ju (hr.mono (by decide)) rfl dU (aa (ab (pv 0)) (aa (ab (pv 2)) ae)) rfl)))))) (ao (mZ (i:=1) (aw (ab (pv 1)))))))
abbrev iA:Stmt:=top 25
def lO:List Str:=["board","part","cell","low","right"]
def lY:List Str:=["board","part","cell"]
theorem gb:FnScope lO lY (af iA):=⟨rfl,rfl,rfl,by decide+kernel,rfl,by decide+kernel,by decide+kernel⟩
theorem qh(B:Bl K mg base cv cA Cp)(jw:aj P w K mg base cv 1 "part_between" 5 cx)(T:bx K mg "lies_at" iA f):aj P w K mg base cv 2 "lies_at" 3 (c0):=
 ay (N:=lO) (ps:=lY) T gb (fun _ _ _ _ _ _ us hl=>match us,hl with | [_,_,_],_=>rfl) fun aY A outer s H E hr=>
  (av (bw gb.nd rfl (by first | exact .inl rfl | exact .inr rfl) (uG (bR (bW (ab (pv 2)) au) (bF rfl B.len (aa (ab (pv 1)) ae))) au)) (av (bw gb.nd rfl (by first | exact .inl rfl | exact .inr rfl) (uG (bR (bW (ab (pv 2)) au) (bF rfl B.len (aa (bW (ab (pv 1)) au) ae))) au)) (ao (aw (fO hr.units (aR jw (hr.mono (by decide)) rfl aG (aa (ab (pv 0)) (aa (bW (ab (pv 2)) au) (aa (bW (ab (pv 2)) au) (aa (ab (pv 3)) (aa (ab (pv 4)) ae))))) rfl) (ab (pv 1)))))))
abbrev e_:Stmt:=top 33
def iJ:List Str:=["_law_script","_law_k","_law_many","_law_cell_here"]
def iT:List Str:=["_law_script","_law_k","_law_many"]
theorem el:FnScope iJ iT (af e_):=⟨rfl,rfl,rfl,by decide+kernel,rfl,by decide+kernel,by decide+kernel⟩
theorem mM(B:Bl K mg base cv cA Cp)(pP:aj P w K mg base cv 1 "_law_cell" 2 c4)(T:bx K mg "_law_drawn" e_ f):aj P w K mg base cv 2 "_law_drawn" 3 (aF):=
 ay (N:=iJ) (ps:=iT) T el (fun _ _ _ _ _ _ us hl=>match us,hl with | [_,_,_],_=>rfl) fun aY A outer s H E hr=>
  (av (bw el.nd rfl (by first | exact .inl rfl | exact .inr rfl) (iq (bR (fZ (iq (aR pP (hr.mono (by decide)) rfl aG (aa (ab (pv 0)) (aa (ab (pv 1)) ae)) rfl) au) au) (fZ au (bR (ab (pv 1)) au))) au)) (av (bw el.nd rfl (by first | exact .inl rfl | exact .inr rfl) (iq (bR (fZ (ab (pv 3)) (ab (pv 3))) (mU (ab (pv 3)) au)) au)) (ao (aw (iq (mU (iq (bR (fZ (ab (pv 3)) (ab (pv 3))) (mU (ab (pv 3)) au)) au) au) (ab (pv 2)))))))
abbrev c_:Stmt:=top 12
def cM:List Str:=["thing"]
def j2:List Str:=["thing"]
theorem pd:FnScope cM j2 (af c_):=⟨rfl,rfl,rfl,by decide+kernel,rfl,by decide+kernel,by decide+kernel⟩
theorem oW(B:Bl K mg base cv cA Cp)(sY:aj P w K mg base cv 2 "is_row" 1 c3)(T:bx K mg "is_board" c_ f):aj P w K mg base cv 3 "is_board" 1 (d5):=
 ay (N:=cM) (ps:=j2) T pd (fun _ _ _ _ _ _ us hl=>match us,hl with | [_],_=>rfl) fun aY A outer s H E hr=>
  (av (bG (PDW.t (j6 (b8 (cC (ip rfl B.isinstance rfl (aa (ab (pv 0)) (aa (l6 rfl B.tuple rfl) ae))))) (gK (b8 (uS lT lT au (bF rfl B.len (aa (ab (pv 0)) ae)) (rf rfl B.MOST_ROWS)))))) (ao (aw c6)) bb) (av (bG (b8 (cC (qm rfl rfl B.all rfl (aa (cB (tn:=["row"]) (n:=0) (bj (N:=cM) (osc:=(af c_)) rfl rfl (by decide+kernel)) rfl rfl (gJ (ab (pv 0))) (fun _ _ _ _ _ _ _=>cY (show List.Nodup (((["row"]:List Str))++bZ ["row"] cM) by decide+kernel) rfl rfl) (fun _ _ _ _ _ _=>b6) (fun _ _ _ _ _ _=>(aR sY (hr.mono (by decide)) rfl dU (aa (ab (pv 0)) ae) rfl))) ae)))) (ao (aw c6)) bb) (ao (aw (qm rfl rfl B.all rfl (aa (cB (tn:=["row"]) (n:=0) (bj (N:=cM) (osc:=(af c_)) rfl rfl (by decide+kernel)) rfl rfl (gJ (ab (pv 0))) (fun _ _ _ _ _ _ _=>cY (show List.Nodup (((["row"]:List Str))++bZ ["row"] cM) by decide+kernel) rfl rfl) (fun _ _ _ _ _ _=>b6) (fun _ _ _ _ _ _=>(fO hr.units (bF rfl B.len (aa (ab (pv 0)) ae)) (bF rfl B.len (aa (bW (ab (pv 1)) au) ae))))) ae))))))
abbrev fe:Stmt:=top 15
def iM:List Str:=["board","thing"]
def iW:List Str:=["board","thing"]
theorem nj:FnScope iM iW (af fe):=⟨rfl,rfl,rfl,by decide+kernel,rfl,by decide+kernel,by decide+kernel⟩
theorem mP(B:Bl K mg base cv cA Cp)(rH:aj P w K mg base cv 2 "is_cell" 2 fm)(T:bx K mg "need_cell" fe f):aj P w K mg base cv 3 "need_cell" 2 (di):=
 ay (N:=iM) (ps:=iW) T nj (fun _ _ _ _ _ _ us hl=>match us,hl with | [_,_],_=>rfl) fun aY A outer s H E hr=>
  (ao (bG (b8 (cC (aR rH (hr.mono (by decide)) rfl aG (aa (ab (pv 0)) (aa (ab (pv 1)) ae)) rfl))) (ao ir) bb))
abbrev dB:Stmt:=top 34
def dr:List Str:=["_law_script","_law_at","_law_most","_law_rows","_law_wide","_law_alphabet","_law_found","_law_row","_law_signs"]
def iS:List Str:=["_law_script","_law_at","_law_most"]
theorem br:FnScope dr iS (af dB):=⟨rfl,rfl,rfl,by decide+kernel,rfl,by decide+kernel,by decide+kernel⟩
set_option maxHeartbeats 4000000 in
theorem mL(B:Bl K mg base cv cA Cp)(bK:aj P w K mg base cv 2 "_law_drawn" 3 aF)(T:bx K mg "_law_board" dB f):aj P w K mg base cv 3 "_law_board" 3 (bD):=
 ay (N:=dr) (ps:=iS) T br (fun _ _ _ _ _ _ us hl=>match us,hl with | [_,_,_],_=>rfl) fun aY A outer s H E hr=>
  (av (bw br.nd rfl (by first | exact .inl rfl | exact .inr rfl) (bR au (aR bK (hr.mono (by decide)) rfl aG (aa (ab (pv 0)) (aa (ab (pv 1)) (aa (ab (pv 2)) ae))) rfl))) (av (bw br.nd rfl (by first | exact .inl rfl | exact .inr rfl) (bR au (aR bK (hr.mono (by decide)) rfl aG (aa (ab (pv 0)) (aa (bR (ab (pv 1)) au) (aa (ab (pv 2)) ae))) rfl))) (av (bw br.nd rfl (by first | exact .inl rfl | exact .inr rfl) (qp (mV (aa bJ (aa bJ (aa bJ (aa bJ ae))))) (aR bK (hr.mono (by decide)) rfl aG (aa (ab (pv 0)) (aa (bR (ab (pv 1)) au) (aa au ae))) rfl))) (av (bw br.nd rfl (by first | exact .inl rfl | exact .inr rfl) (eX ae)) (av (fw (ef PassesOwn.never rfl (d_ rfl B.range (aa (ab (pv 3)) ae)) (b9 br.nd rfl (by first | exact .inl rfl | exact .inr rfl)) c8 (c7 (av (o7 (tn:=["_law_k"]) (n:=0) br.nd rfl (by first | exact .inl rfl | exact .inr rfl) (bj (N:=dr) (osc:=(af dB)) rfl rfl (by decide+kernel)) rfl rfl (d_ rfl B.range (aa (ab (pv 4)) ae)) (fun _ _ _ _ _ _ _=>cY (show List.Nodup (((["_law_k"]:List Str))++bZ ["_law_k"] dr) by decide+kernel) rfl rfl) (fun _ _ _ _ _ _=>b6) (fun _ _ _ _ _ _=>(qq (ab (pv 6)) (aR bK (hr.mono (by decide)) rfl dU (aa (ab (pv 1)) (aa (bR (bR (bR (ab (pv 2)) au) (fZ au (ab (pv 8)))) (ab (pv 0))) (aa (bF rfl B.len (aa (ab (pv 6)) ae)) ae))) rfl)))) (ao (bw br.nd rfl (by first | exact .inl rfl | exact .inr rfl) (wo (ab (pv 6)) (eX (aa (gG bJ (aa (ab (pv 8)) ae)) ae))))))))) (ao (aw (ab (pv 6)))))))))
abbrev dG:Stmt:=top 35
def fK:List Str:=["_law_script","_law_at","_law_board_here"]
def fM:List Str:=["_law_script","_law_at","_law_board_here"]
theorem kj:FnScope fK fM (af dG):=⟨rfl,rfl,rfl,by decide+kernel,rfl,by decide+kernel,by decide+kernel⟩
theorem jY(B:Bl K mg base cv cA Cp)(bK:aj P w K mg base cv 2 "_law_drawn" 3 aF)(T:bx K mg "_law_cell_in" dG f):aj P w K mg base cv 3 "_law_cell_in" 3 (bH):=
 ay (N:=fK) (ps:=fM) T kj (fun _ _ _ _ _ _ us hl=>match us,hl with | [_,_,_],_=>rfl) fun aY A outer s H E hr=>
  (ao (aw (eX (aa (aR bK (hr.mono (by decide)) rfl aG (aa (ab (pv 0)) (aa (ab (pv 1)) (aa (bF rfl B.len (aa (ab (pv 2)) ae)) ae))) rfl) (aa (aR bK (hr.mono (by decide)) rfl aG (aa (ab (pv 0)) (aa (bR (ab (pv 1)) au) (aa (bF rfl B.len (aa (bW (ab (pv 2)) au) ae)) ae))) rfl) ae)))))
abbrev ei:Stmt:=top 14
def gx:List Str:=["thing"]
def gD:List Str:=["thing"]
theorem kT:FnScope gx gD (af ei):=⟨rfl,rfl,rfl,by decide+kernel,rfl,by decide+kernel,by decide+kernel⟩
theorem kO(B:Bl K mg base cv cA Cp)(pO:aj P w K mg base cv 3 "is_board" 1 d5)(T:bx K mg "need_board" ei f):aj P w K mg base cv 4 "need_board" 1 (aE):=
 ay (N:=gx) (ps:=gD) T kT (fun _ _ _ _ _ _ us hl=>match us,hl with | [_],_=>rfl) fun aY A outer s H E hr=>
  (ao (bG (b8 (cC (aR pO (hr.mono (by decide)) rfl aG (aa (ab (pv 0)) ae) rfl))) (ao ir) bb))
abbrev m_:Stmt:=top 20
def q0:List Str:=["board"]
def ra:List Str:=["board"]
theorem u_:FnScope q0 ra (af m_):=⟨rfl,rfl,rfl,by decide+kernel,rfl,by decide+kernel,by decide+kernel⟩
theorem uw(B:Bl K mg base cv cA Cp)(aM:aj P w K mg base cv 4 "need_board" 1 aE)(eD:aj P w K mg base cv 2 "all_cells" 1 bP)(T:bx K mg "cells" m_ f):aj P w K mg base cv 5 "cells" 1 (b7):=
 ay (N:=q0) (ps:=ra) T u_ (fun _ _ _ _ _ _ us hl=>match us,hl with | [_],_=>rfl) fun aY A outer s H E hr=>
  (av (cP (aR aM (hr.mono (by decide)) rfl aG (aa (ab (pv 0)) ae) rfl)) (ao (aw (aR eD (hr.mono (by decide)) rfl aG (aa (ab (pv 0)) ae) rfl))))
abbrev fb:Stmt:=top 21
def iK:List Str:=["board","cell"]
def iU:List Str:=["board","cell"]
theorem nh:FnScope iK iU (af fb):=⟨rfl,rfl,rfl,by decide+kernel,rfl,by decide+kernel,by decide+kernel⟩
theorem mN(B:Bl K mg base cv cA Cp)(aM:aj P w K mg base cv 4 "need_board" 1 aE)(nW:aj P w K mg base cv 3 "need_cell" 2 di)(nV:aj P w K mg base cv 1 "letter_of" 2 dh)(T:bx K mg "letter_at" fb f):aj P w K mg base cv 5 "letter_at" 2 (bE):=
 ay (N:=iK) (ps:=iU) T nh (fun _ _ _ _ _ _ us hl=>match us,hl with | [_,_],_=>rfl) fun aY A outer s H E hr=>
  (av (cP (aR aM (hr.mono (by decide)) rfl aG (aa (ab (pv 0)) ae) rfl)) (av (cP (aR nW (hr.mono (by decide)) rfl aG (aa (ab (pv 0)) (aa (ab (pv 1)) ae)) rfl)) (ao (aw (aR nV (hr.mono (by decide)) rfl aG (aa (ab (pv 0)) (aa (ab (pv 1)) ae)) rfl)))))
abbrev fx:Stmt:=top 22
def ft:List Str:=["board","signs"]
def lX:List Str:=["board"]
theorem kl:FnScope ft lX (af fx):=⟨rfl,rfl,rfl,by decide+kernel,rfl,by decide+kernel,by decide+kernel⟩
theorem qg(B:Bl K mg base cv cA Cp)(aM:aj P w K mg base cv 4 "need_board" 1 aE)(T:bx K mg "letters" fx f):aj P w K mg base cv 5 "letters" 1 (aQ):=
 ay (N:=ft) (ps:=lX) T kl (fun _ _ _ _ _ _ us hl=>match us,hl with | [_],_=>rfl) fun aY A outer s H E hr=>
  (av (cP (aR aM (hr.mono (by decide)) rfl aG (aa (ab (pv 0)) ae) rfl)) (av (bw kl.nd rfl (by first | exact .inl rfl | exact .inr rfl) (gG bJ (aa (ab (pv 0)) ae))) (ao (aw (cB (tn:=["letter"]) (n:=0) (bj (N:=ft) (osc:=(af fx)) rfl rfl (by decide+kernel)) rfl rfl (gH (mX rfl B.LETTERS (by decide))) (fun _ _ _ _ _ _ _=>cY (show List.Nodup (((["letter"]:List Str))++bZ ["letter"] ft) by decide+kernel) rfl rfl) (fun _ _ _ _ _ _=>(pw (y9 (ab (pv 0)) (ab (pv 2))))) (fun _ _ _ _ _ _=>(eX (aa (ab (pv 0)) (aa (wq (ab (pv 2)) (aa (ab (pv 0)) ae)) ae)))))))))
abbrev eh:Stmt:=top 27
def d9:List Str:=["board","part"]
def j1:List Str:=["board","part"]
theorem pb:FnScope d9 j1 (af eh):=⟨rfl,rfl,rfl,by decide+kernel,rfl,by decide+kernel,by decide+kernel⟩
theorem oV(B:Bl K mg base cv cA Cp)(aM:aj P w K mg base cv 4 "need_board" 1 aE)(eD:aj P w K mg base cv 2 "all_cells" 1 bP)(rJ:aj P w K mg base cv 2 "lies_at" 3 c0)(T:bx K mg "found_in" eh f):aj P w K mg base cv 5 "found_in" 2 (bQ):=
 ay (N:=d9) (ps:=j1) T pb (fun _ _ _ _ _ _ us hl=>match us,hl with | [_,_],_=>rfl) fun aY A outer s H E hr=>
  (av (cP (aR aM (hr.mono (by decide)) rfl aG (aa (ab (pv 0)) ae) rfl)) (av (cP (aR aM (hr.mono (by decide)) rfl aG (aa (ab (pv 1)) ae) rfl)) (ao (aw (cB (tn:=["cell"]) (n:=0) (bj (N:=d9) (osc:=(af eh)) rfl rfl (by decide+kernel)) rfl rfl (eY (aR eD (hr.mono (by decide)) rfl aG (aa (ab (pv 0)) ae) rfl)) (fun _ _ _ _ _ _ _=>cY (show List.Nodup (((["cell"]:List Str))++bZ ["cell"] d9) by decide+kernel) rfl rfl) (fun _ _ _ _ _ _=>(pw (cC (aR rJ (hr.mono (by decide)) rfl dU (aa (ab (pv 1)) (aa (ab (pv 2)) (aa (ab (pv 0)) ae))) rfl)))) (fun _ _ _ _ _ _=>(ab (pv 0))))))))
abbrev ej:Stmt:=top 28
def gy:List Str:=["board","names","sign"]
def gE:List Str:=["board"]
theorem dI:FnScope gy gE (af ej):=⟨rfl,rfl,rfl,by decide+kernel,rfl,by decide+kernel,by decide+kernel⟩
theorem kP(B:Bl K mg base cv cA Cp)(aM:aj P w K mg base cv 4 "need_board" 1 aE)(d4:aj P w K mg base cv 1 "with_names" 2 bT)(T:bx K mg "relettered" ej f):aj P w K mg base cv 5 "relettered" 1 (aO):=
 ay (N:=gy) (ps:=gE) T dI (fun _ _ _ _ _ _ us hl=>match us,hl with | [_],_=>rfl) fun aY A outer s H E hr=>
  (av (cP (aR aM (hr.mono (by decide)) rfl aG (aa (ab (pv 0)) ae) rfl)) (av (uP dI.nd rfl (by first | exact .inl rfl | exact .inr rfl)) (av (fw (ef PassesOwn.never rfl (gH (gG bJ (aa (ab (pv 0)) ae))) (b9 dI.nd rfl (by first | exact .inl rfl | exact .inr rfl)) c8 (c7 (ao (bG (yS (sF hr.units (ab (pv 2)) (ab (pv 1)))) (ao (uQ hr.units (pv 1) (ab (pv 2)) (Au (qq (mX rfl B.LETTERS (by decide)) (wx rfl B.len (aa (ab (pv 1)) ae)))))) bb))))) (ao (mZ (i:=1) (aw (aR d4 (hr.mono (by decide)) rfl aG (aa (ab (pv 0)) (aa (ab (pv 1)) ae)) rfl)))))))
abbrev iB:Stmt:=top 30
def lP:List Str:=["board","one","other"]
def lZ:List Str:=["board","one","other"]
theorem qx:FnScope lP lZ (af iB):=⟨rfl,rfl,rfl,by decide+kernel,rfl,by decide+kernel,by decide+kernel⟩
theorem qi(B:Bl K mg base cv cA Cp)(aM:aj P w K mg base cv 4 "need_board" 1 aE)(fH:aj P w K mg base cv 2 "need_letter" 1 bY)(d4:aj P w K mg base cv 1 "with_names" 2 bT)(T:bx K mg "swapped" iB f):aj P w K mg base cv 5 "swapped" 3 (cu):=
 ay (N:=lP) (ps:=lZ) T qx (fun _ _ _ _ _ _ us hl=>match us,hl with | [_,_,_],_=>rfl) fun aY A outer s H E hr=>
  (av (cP (aR aM (hr.mono (by decide)) rfl aG (aa (ab (pv 0)) ae) rfl)) (av (cP (aR fH (hr.mono (by decide)) rfl aG (aa (ab (pv 1)) ae) rfl)) (av (cP (aR fH (hr.mono (by decide)) rfl aG (aa (ab (pv 2)) ae) rfl)) (ao (aw (aR d4 (hr.mono (by decide)) rfl aG (aa (ab (pv 0)) (aa (uE hr.units (ab (pv 1)) (ab (pv 2)) (ab (pv 2)) (ab (pv 1))) ae)) rfl))))))
abbrev f7:Stmt:=top 29
def jS:List Str:=["one","other"]
def j0:List Str:=["one","other"]
theorem o_:FnScope jS j0 (af f7):=⟨rfl,rfl,rfl,by decide+kernel,rfl,by decide+kernel,by decide+kernel⟩
theorem oU(B:Bl K mg base cv cA Cp)(aX:aj P w K mg base cv 5 "relettered" 1 aO)(T:bx K mg "are_like" f7 f):aj P w K mg base cv 6 "are_like" 2 (aU):=
 ay (N:=jS) (ps:=j0) T o_ (fun _ _ _ _ _ _ us hl=>match us,hl with | [_,_],_=>rfl) fun aY A outer s H E hr=>
  (ao (aw (fO hr.units (aR aX (hr.mono (by decide)) rfl aG (aa (ab (pv 0)) ae) rfl) (aR aX (hr.mono (by decide)) rfl aG (aa (ab (pv 1)) ae) rfl))))
abbrev ag:Stmt:=top 36
def az:List Str:=["_law_script","_law_board_here","_law_other","_law_plain","_law_one","_law_two","_law_met","_law_letter","_law_third"]
def ij:List Str:=["_law_script"]
theorem bu:FnScope az ij (af ag):=⟨rfl,rfl,rfl,by decide+kernel,rfl,by decide+kernel,by decide+kernel⟩
set_option maxHeartbeats 4000000 in
theorem nq(B:Bl K mg base cv cA Cp)(ck:aj P w K mg base cv 3 "_law_board" 3 bD){aY:Value}{A:Around}{outer:List Env}{s:Shared}{H:Hp}{E:XK}(hr:Room 6 (A.deeper (envOfC "law" (af ag) s.heap.objs.size f aY))):
 Box (eB (cb (fF P w cv) P w K mg base az "law" (af ag) f aY A outer s H E) (fun n H'=>E (cv n) none H') ((aI ag).getD 0 (.Pass ⟨0,0,0,0⟩)) i2):=
 ⟨(bw bu.nd rfl (by first | exact .inl rfl | exact .inr rfl) (aR ck (hr.mono (by decide)) rfl aG (aa (ab (pv 0)) (aa au (aa au ae))) rfl))⟩
set_option maxHeartbeats 4000000 in
theorem nr(B:Bl K mg base cv cA Cp)(ck:aj P w K mg base cv 3 "_law_board" 3 bD){aY:Value}{A:Around}{outer:List Env}{s:Shared}{H:Hp}{E:XK}(hr:Room 6 (A.deeper (envOfC "law" (af ag) s.heap.objs.size f aY))):
 Box (eB (cb (fF P w cv) P w K mg base az "law" (af ag) f aY A outer s H E) (fun n H'=>E (cv n) none H') ((aI ag).getD 1 (.Pass ⟨0,0,0,0⟩)) i3):=
 ⟨(bw bu.nd rfl (by first | exact .inl rfl | exact .inr rfl) (aR ck (hr.mono (by decide)) rfl aG (aa (ab (pv 0)) (aa au (aa au ae))) rfl))⟩
set_option maxHeartbeats 4000000 in
theorem nu(B:Bl K mg base cv cA Cp)(aX:aj P w K mg base cv 5 "relettered" 1 aO){aY:Value}{A:Around}{outer:List Env}{s:Shared}{H:Hp}{E:XK}(hr:Room 6 (A.deeper (envOfC "law" (af ag) s.heap.objs.size f aY))):
 Box (eB (cb (fF P w cv) P w K mg base az "law" (af ag) f aY A outer s H E) (fun n H'=>E (cv n) none H') ((aI ag).getD 2 (.Pass ⟨0,0,0,0⟩)) i4):=
 ⟨(bw bu.nd rfl (by first | exact .inl rfl | exact .inr rfl) (aR aX (hr.mono (by decide)) rfl aG (aa (ab (pv 1)) ae) rfl))⟩
set_option maxHeartbeats 4000000 in
theorem nv(B:Bl K mg base cv cA Cp)(cq:aj P w K mg base cv 5 "letters" 1 aQ){aY:Value}{A:Around}{outer:List Env}{s:Shared}{H:Hp}{E:XK}(hr:Room 6 (A.deeper (envOfC "law" (af ag) s.heap.objs.size f aY))):
 Box (eB (cb (fF P w cv) P w K mg base az "law" (af ag) f aY A outer s H E) (fun n H'=>E (cv n) none H') ((aI ag).getD 3 (.Pass ⟨0,0,0,0⟩)) i5):=
 ⟨(bG (gM hr.units (rj rfl B.sorted rfl (aa (cB (tn:=["_law_letter","_law_many"]) (n:=2) (bj (N:=az) (osc:=(af ag)) rfl rfl (by decide+kernel)) rfl rfl (eY (aR cq (hr.mono (by decide)) rfl aG (aa (ab (pv 3)) ae) rfl)) (fun _ _ _ _ _ _ _=>qC (show List.Nodup (((["_law_letter","_law_many"]:List Str))++bZ ["_law_letter","_law_many"] az) by decide+kernel) rfl rfl rfl rfl rfl) (fun _ _ _ _ _ _=>b6) (fun _ _ _ _ _ _=>(ab (pv 1)))) ae)) (rj rfl B.sorted rfl (aa (cB (tn:=["_law_letter","_law_many"]) (n:=2) (bj (N:=az) (osc:=(af ag)) rfl rfl (by decide+kernel)) rfl rfl (eY (aR cq (hr.mono (by decide)) rfl aG (aa (ab (pv 1)) ae) rfl)) (fun _ _ _ _ _ _ _=>qC (show List.Nodup (((["_law_letter","_law_many"]:List Str))++bZ ["_law_letter","_law_many"] az) by decide+kernel) rfl rfl rfl rfl rfl) (fun _ _ _ _ _ _=>b6) (fun _ _ _ _ _ _=>(ab (pv 1)))) ae))) (ao (aw c6)) bb)⟩
set_option maxHeartbeats 4000000 in
theorem ny(B:Bl K mg base cv cA Cp)(cq:aj P w K mg base cv 5 "letters" 1 aQ){aY:Value}{A:Around}{outer:List Env}{s:Shared}{H:Hp}{E:XK}(hr:Room 6 (A.deeper (envOfC "law" (af ag) s.heap.objs.size f aY))):
 Box (eB (cb (fF P w cv) P w K mg base az "law" (af ag) f aY A outer s H E) (fun n H'=>E (cv n) none H') ((aI ag).getD 4 (.Pass ⟨0,0,0,0⟩)) i6):=
 ⟨(bG (gM hr.units (cB (tn:=["_law_letter","_law_many"]) (n:=2) (bj (N:=az) (osc:=(af ag)) rfl rfl (by decide+kernel)) rfl rfl (eY (aR cq (hr.mono (by decide)) rfl aG (aa (ab (pv 3)) ae) rfl)) (fun _ _ _ _ _ _ _=>qC (show List.Nodup (((["_law_letter","_law_many"]:List Str))++bZ ["_law_letter","_law_many"] az) by decide+kernel) rfl rfl rfl rfl rfl) (fun _ _ _ _ _ _=>b6) (fun _ _ _ _ _ _=>(ab (pv 0)))) (uF rfl rfl B.list rfl (aa (ri bJ o5 (dW (bF rfl B.len (aa (aR cq (hr.mono (by decide)) rfl aG (aa (ab (pv 1)) ae) rfl) ae)))) ae))) (ao (aw c6)) bb)⟩
set_option maxHeartbeats 4000000 in
theorem nz(B:Bl K mg base cv cA Cp)(gh:aj P w K mg base cv 5 "cells" 1 b7)(dD:aj P w K mg base cv 3 "_law_cell_in" 3 bH)(cn:aj P w K mg base cv 5 "letter_at" 2 bE){aY:Value}{A:Around}{outer:List Env}{s:Shared}{H:Hp}{E:XK}(hr:Room 6 (A.deeper (envOfC "law" (af ag) s.heap.objs.size f aY))):
 Box (eB (cb (fF P w cv) P w K mg base az "law" (af ag) f aY A outer s H E) (fun n H'=>E (cv n) none H') ((aI ag).getD 5 (.Pass ⟨0,0,0,0⟩)) i7):=
 ⟨(fw (ef PassesOwn.never rfl (eY (aR gh (hr.mono (by decide)) rfl dU (aa (ab (pv 1)) ae) rfl)) (b9 bu.nd rfl (by first | exact .inl rfl | exact .inr rfl)) c8 (c7 (ao (ef PassesOwn.never rfl (gJ (eX (aa (qp (aR gh (hr.mono (by decide)) rfl dU (aa (ab (pv 1)) ae) rfl) au) (aa (qp (aR gh (hr.mono (by decide)) rfl dU (aa (ab (pv 1)) ae) rfl) (yP au)) (aa (aR dD (hr.mono (by decide)) rfl dU (aa (ab (pv 0)) (aa au (aa (ab (pv 1)) ae))) rfl) ae))))) (b9 bu.nd rfl (by first | exact .inl rfl | exact .inr rfl)) c8 (c7 (ao (bG (gM hr.units (fO hr.units (aR cn (hr.mono (by decide)) rfl dU (aa (ab (pv 3)) (aa (ab (pv 4)) ae)) rfl) (aR cn (hr.mono (by decide)) rfl dU (aa (ab (pv 3)) (aa (ab (pv 5)) ae)) rfl)) (fO hr.units (aR cn (hr.mono (by decide)) rfl dU (aa (ab (pv 1)) (aa (ab (pv 4)) ae)) rfl) (aR cn (hr.mono (by decide)) rfl dU (aa (ab (pv 1)) (aa (ab (pv 5)) ae)) rfl))) (ao (aw c6)) bb))))))))⟩
set_option maxHeartbeats 4000000 in
theorem nA(B:Bl K mg base cv cA Cp){aY:Value}{A:Around}{outer:List Env}{s:Shared}{H:Hp}{E:XK}(hr:Room 6 (A.deeper (envOfC "law" (af ag) s.heap.objs.size f aY))):
 Box (eB (cb (fF P w cv) P w K mg base az "law" (af ag) f aY A outer s H E) (fun n H'=>E (cv n) none H') ((aI ag).getD 6 (.Pass ⟨0,0,0,0⟩)) i8):=
 ⟨(bw bu.nd rfl (by first | exact .inl rfl | exact .inr rfl) bJ)⟩
set_option maxHeartbeats 4000000 in
theorem nB(B:Bl K mg base cv cA Cp){aY:Value}{A:Around}{outer:List Env}{s:Shared}{H:Hp}{E:XK}(hr:Room 6 (A.deeper (envOfC "law" (af ag) s.heap.objs.size f aY))):
 Box (eB (cb (fF P w cv) P w K mg base az "law" (af ag) f aY A outer s H E) (fun n H'=>E (cv n) none H') ((aI ag).getD 7 (.Pass ⟨0,0,0,0⟩)) i9):=
 ⟨(fw (ef PassesOwn.never rfl (gH (gG bJ (aa (ab (pv 3)) ae))) (b9 bu.nd rfl (by first | exact .inl rfl | exact .inr rfl)) c8 (c7 (ao (bw bu.nd rfl (by first | exact .inl rfl | exact .inr rfl) (wk (ab (pv 6)) (wy (ab (pv 7)) (wu rfl B.int rfl (aa (sC (ab (pv 7)) (ab (pv 6))) ae)))))))))⟩
set_option maxHeartbeats 4000000 in
theorem nE(B:Bl K mg base cv cA Cp){aY:Value}{A:Around}{outer:List Env}{s:Shared}{H:Hp}{E:XK}(hr:Room 6 (A.deeper (envOfC "law" (af ag) s.heap.objs.size f aY))):
 Box (eB (cb (fF P w cv) P w K mg base az "law" (af ag) f aY A outer s H E) (fun n H'=>E (cv n) none H') ((aI ag).getD 8 (.Pass ⟨0,0,0,0⟩)) i_):=
 ⟨(bG (gM hr.units (ab (pv 6)) (ri bJ o5 (dW (bF rfl B.len (aa (ab (pv 6)) ae))))) (ao (aw c6)) bb)⟩
set_option maxHeartbeats 4000000 in
theorem nG(B:Bl K mg base cv cA Cp)(cJ:aj P w K mg base cv 5 "swapped" 3 cu){aY:Value}{A:Around}{outer:List Env}{s:Shared}{H:Hp}{E:XK}(hr:Room 6 (A.deeper (envOfC "law" (af ag) s.heap.objs.size f aY))):
 Box (eB (cb (fF P w cv) P w K mg base az "law" (af ag) f aY A outer s H E) (fun n H'=>E (cv n) none H') ((aI ag).getD 9 (.Pass ⟨0,0,0,0⟩)) ja):=
 ⟨(bw bu.nd rfl (by first | exact .inl rfl | exact .inr rfl) (aR cJ (hr.mono (by decide)) rfl aG (aa (aR cJ (hr.mono (by decide)) rfl aG (aa (ab (pv 2)) (aa bJ (aa bJ ae))) rfl) (aa bJ (aa bJ ae))) rfl))⟩
set_option maxHeartbeats 4000000 in
theorem kW(B:Bl K mg base cv cA Cp)(a9:aj P w K mg base cv 6 "are_like" 2 aU){aY:Value}{A:Around}{outer:List Env}{s:Shared}{H:Hp}{E:XK}(hr:Room 6 (A.deeper (envOfC "law" (af ag) s.heap.objs.size f aY))):
 Box (eB (cb (fF P w cv) P w K mg base az "law" (af ag) f aY A outer s H E) (fun n H'=>E (cv n) none H') ((aI ag).getD 10 (.Pass ⟨0,0,0,0⟩)) gY):=
 ⟨(bG (PDW.t (j6 (b8 (cC (aR a9 (hr.mono (by decide)) rfl aG (aa (ab (pv 2)) (aa (ab (pv 8)) ae)) rfl))) (gK (gM hr.units (aR a9 (hr.mono (by decide)) rfl aG (aa (ab (pv 1)) (aa (ab (pv 2)) ae)) rfl) (aR a9 (hr.mono (by decide)) rfl aG (aa (ab (pv 2)) (aa (ab (pv 1)) ae)) rfl))))) (ao (aw c6)) bb)⟩
set_option maxHeartbeats 4000000 in
theorem kX(B:Bl K mg base cv cA Cp)(a9:aj P w K mg base cv 6 "are_like" 2 aU){aY:Value}{A:Around}{outer:List Env}{s:Shared}{H:Hp}{E:XK}(hr:Room 6 (A.deeper (envOfC "law" (af ag) s.heap.objs.size f aY))):
 Box (eB (cb (fF P w cv) P w K mg base az "law" (af ag) f aY A outer s H E) (fun n H'=>E (cv n) none H') ((aI ag).getD 11 (.Pass ⟨0,0,0,0⟩)) gZ):=
 ⟨(bG (gM hr.units (aR a9 (hr.mono (by decide)) rfl aG (aa (ab (pv 1)) (aa (ab (pv 8)) ae)) rfl) (aR a9 (hr.mono (by decide)) rfl aG (aa (ab (pv 1)) (aa (ab (pv 2)) ae)) rfl)) (ao (aw c6)) bb)⟩
set_option maxHeartbeats 4000000 in
theorem kY(B:Bl K mg base cv cA Cp)(a9:aj P w K mg base cv 6 "are_like" 2 aU){aY:Value}{A:Around}{outer:List Env}{s:Shared}{H:Hp}{E:XK}(hr:Room 6 (A.deeper (envOfC "law" (af ag) s.heap.objs.size f aY))):
 Box (eB (cb (fF P w cv) P w K mg base az "law" (af ag) f aY A outer s H E) (fun n H'=>E (cv n) none H') ((aI ag).getD 12 (.Pass ⟨0,0,0,0⟩)) g0):=
 ⟨(bG (wO (aR a9 (hr.mono (by decide)) rfl aG (aa (ab (pv 3)) (aa (ab (pv 1)) ae)) rfl) c6) (ao (aw c6)) bb)⟩
set_option maxHeartbeats 4000000 in
theorem kZ(B:Bl K mg base cv cA Cp)(cI:aj P w K mg base cv 5 "found_in" 2 bQ){aY:Value}{A:Around}{outer:List Env}{s:Shared}{H:Hp}{E:XK}(hr:Room 6 (A.deeper (envOfC "law" (af ag) s.heap.objs.size f aY))):
 Box (eB (cb (fF P w cv) P w K mg base az "law" (af ag) f aY A outer s H E) (fun n H'=>E (cv n) none H') ((aI ag).getD 13 (.Pass ⟨0,0,0,0⟩)) g4):=
 ⟨(bG (gM hr.units (aR cI (hr.mono (by decide)) rfl aG (aa (ab (pv 3)) (aa (ab (pv 3)) ae)) rfl) (mV (aa (eX (aa au (aa au ae))) ae))) (ao (aw c6)) bb)⟩
set_option maxHeartbeats 4000000 in
theorem k0(B:Bl K mg base cv cA Cp)(cI:aj P w K mg base cv 5 "found_in" 2 bQ){aY:Value}{A:Around}{outer:List Env}{s:Shared}{H:Hp}{E:XK}(hr:Room 6 (A.deeper (envOfC "law" (af ag) s.heap.objs.size f aY))):
 Box (eB (cb (fF P w cv) P w K mg base az "law" (af ag) f aY A outer s H E) (fun n H'=>E (cv n) none H') ((aI ag).getD 14 (.Pass ⟨0,0,0,0⟩)) g5):=
 ⟨(bG (gM hr.units (fO hr.units (aR cI (hr.mono (by decide)) rfl aG (aa (ab (pv 1)) (aa (ab (pv 3)) ae)) rfl) (mV (aa (eX (aa au (aa au ae))) ae))) (fO hr.units (ab (pv 3)) (ab (pv 1)))) (ao (aw c6)) bb)⟩
set_option maxHeartbeats 4000000 in
theorem k5(B:Bl K mg base cv cA Cp)(aX:aj P w K mg base cv 5 "relettered" 1 aO)(cJ:aj P w K mg base cv 5 "swapped" 3 cu){aY:Value}{A:Around}{outer:List Env}{s:Shared}{H:Hp}{E:XK}(hr:Room 6 (A.deeper (envOfC "law" (af ag) s.heap.objs.size f aY))):
 Box (eB (cb (fF P w cv) P w K mg base az "law" (af ag) f aY A outer s H E) (fun n H'=>E (cv n) none H') ((aI ag).getD 15 (.Pass ⟨0,0,0,0⟩)) g6):=
 ⟨(aw (j5 (fO hr.units (aR aX (hr.mono (by decide)) rfl aG (aa (ab (pv 8)) ae) rfl) (aR aX (hr.mono (by decide)) rfl aG (aa (ab (pv 2)) ae) rfl)) (mW (fO hr.units (aR cJ (hr.mono (by decide)) rfl aG (aa (ab (pv 1)) (aa bJ (aa bJ ae))) rfl) (ab (pv 1))))))⟩
set_option maxHeartbeats 4000000 in
theorem oT{fd:FuncData}(B:Bl K mg base cv cA Cp)(ck:aj P w K mg base cv 3 "_law_board" 3 bD)(aX:aj P w K mg base cv 5 "relettered" 1 aO)(gh:aj P w K mg base cv 5 "cells" 1 b7)(cJ:aj P w K mg base cv 5 "swapped" 3 cu)(a9:aj P w K mg base cv 6 "are_like" 2 aU)(cI:aj P w K mg base cv 5 "found_in" 2 bQ)(dD:aj P w K mg base cv 3 "_law_cell_in" 3 bH)(cq:aj P w K mg base cv 5 "letters" 1 aQ)(cn:aj P w K mg base cv 5 "letter_at" 2 bE)(Fn:Fun K "law" "law" ag f fd):FnOk P w K mg base (fF P w cv) 7 f fd ij (zA K cv 1 fo):=
 zX (N:=az) (ps:=ij) (τ:=iC) Fn bu fun aY A outer s H E hr=>by
  obtain⟨Fd⟩:Box (PSDs (cb (fF P w cv) P w K mg base az "law" (af ag) f aY A outer s H E) (fun n H'=>E (cv n) none H') (aI ag) iC):=(b_ (nq B ck hr) (b_ (nr B ck hr) (b_ (nu B aX hr) (b_ (nv B cq hr) (b_ (ny B cq hr) (b_ (nz B gh dD cn hr) (b_ (nA B hr) (b_ (nB B hr) (b_ (nE B hr) (b_ (nG B cJ hr) (b_ (kW B a9 hr) (b_ (kX B a9 hr) (b_ (kY B a9 hr) (b_ (kZ B cI hr) (b_ (k0 B cI hr) (xV (k5 B aX cJ hr)))))))))))))))))
  assumption
end
end K1
namespace K1
open PySem L2 L3
theorem uf{ds:List D}(h:ds.length≤lim):eR ds=M.ret (.lst ds):=if_pos h
theorem c5:lim=4096:=rfl
theorem dN{α:Type}{xs:List α}{i:Nat}{x:α}(h:xs[i]? =some x):L2.atI xs (i:Int)=some x:=by
 obtain⟨hi,e⟩:=List.getElem?_eq_some_iff.mp h
 unfold L2.atI t5
 rw[if_pos (Int.natCast_nonneg i),if_pos (by exact Int.ofNat_lt.mpr hi)]
 exact h
theorem ai{m:Nat}{g:List D→M D}{δs:DA}{ρ:aT}{ds:List D}(h:δs ρ=M.ret ds)(hl:ds.length=m):ak m g δs ρ=g ds:=by
 unfold ak
 rw[h]
 exact if_pos hl
theorem aK{a:DE}{r:DA}{ρ:aT}{x:D}{xs:List D}(h1:a ρ=M.ret x)(h2:r ρ=M.ret xs):aC a r ρ=M.ret (x::xs):=by
 unfold aC
 rw[h1,ah,h2]
 rfl
theorem aL{g:D→D→M D}{a b:DE}{ρ:aT}{x y:D}(h1:a ρ=M.ret x)(h2:b ρ=M.ret y):d2 g a b ρ=g x y:=by
 unfold d2
 rw[h1,ah,h2]
 rfl
theorem cf{g:List D→M D}{a:DA}{ρ:aT}{xs:List D}(h:a ρ=M.ret xs):dA g a ρ=g xs:=by
 unfold dA
 rw[h]
 rfl
theorem dP{i j:Int}(h:0<j):gn (.int i) (.int j)=M.ret (.int (i % j)):=by
 show (if decide (0<j)=true then _ else _)=_
 rw[if_pos (decide_eq_true h)]
theorem gm{i j:Int}(h:0<j)(h2:j<1073741824):kJ (.int i) (.int j)=M.ret (.int (i / j)):=by
 show (if decide (0<j∧j<1073741824)=true then _ else _)=_
 rw[if_pos (decide_eq_true ⟨h,h2⟩)]
theorem dQ{i j:Int}(h:(-(2 ^ 64)<i∧i<2 ^ 64)∨(-(2 ^ 64)<j∧j<2 ^ 64)):eK (.int i) (.int j)=M.ret (.int (i*j)):=by
 show (if decide _=true then _ else _)=_
 rw[if_pos (decide_eq_true h)]
theorem eI{i j:Int}:cR (.int i) (.int j)=M.ret (.int (i+j)):=rfl
theorem s8(ns:List Int)(hl:ns.length≤63)(k:Nat):∃v,c4 [.scr ns, .int (k:Int)]=M.ret (.int v):=by
 cases ns with
 |nil=>
  refine⟨7*(k:Int),?_⟩
  rfl
 |cons n r=>
  have hp:0<(n::r).length:=Nat.succ_pos _
  generalize e:(n::r)=ns at*
  have he:jF 6 (.scr ns) (.lst [])=some false:=by subst e;rfl
  obtain⟨y,hy⟩:∃y,ns[k % ns.length]? =some y:=⟨_,List.getElem?_eq_getElem (Nat.mod_lt _ hp)⟩
  have Ds:(0:Int)<(ns.length:Int):=by omega
  have h1:gn (.int (k:Int)) (.int (ns.length:Int))=M.ret (.int ((k % ns.length:Nat):Int)):=dP Ds
  have h2:kJ (.int (k:Int)) (.int (ns.length:Int))=M.ret (.int ((k:Int) / (ns.length:Int))):=gm Ds (by omega)
  have h3:tM (.scr ns) (.int ((k % ns.length:Nat):Int))=M.ret (.int y):=by
   show (match L2.atI ns ((k % ns.length:Nat):Int) with | some n=>M.ret (D.int n) | none=>M.stuck)=_
   rw[dN hy]
  have h4:eK (.int 6553) (.int ((k:Int) / (ns.length:Int)))=M.ret (.int (6553*((k:Int) / (ns.length:Int)))):=dQ (.inl ⟨by decide,by decide⟩)
  refine⟨y+6553*((k:Int) / (ns.length:Int)),?_⟩
  simp only[c4,kE,bV,aS,g7,bh,c9,eu,d2,dV,dC,dA,aC,aN,eR,bg,sS,jl,he,ah,h1,h2,h3,h4,List.map_cons,List.map_nil,List.cons_append,List.nil_append,List.length_cons,List.length_nil,List.getElem?_cons_zero,List.getElem?_cons_succ,c5,Nat.reduceAdd,Nat.zero_le,if_true,Bool.false_eq_true,if_false,cR,gI]
theorem cZ(ns:List Int)(hl:ns.length≤63)(k m:Nat)(hm:0<m):∃v:Nat,v<m∧aF [.scr ns, .int (k:Int), .int (m:Int)]=M.ret (.int (v:Int)):=by
 obtain⟨c,hc⟩:=s8 ns hl k
 have b1:=Int.emod_nonneg (c % 2147483563*69069+104723*((k:Int)+1)) (b:=2147483563) (by decide)
 have b2:=Int.emod_lt_of_pos (c % 2147483563*69069+104723*((k:Int)+1)) (b:=2147483563) (by decide)
 generalize hx:(c % 2147483563*69069+104723*((k:Int)+1)) % 2147483563=x at b1 b2
 have b3:=Int.emod_nonneg (x*x+x / 3) (b:=2147483399) (by decide)
 have b4:=Int.emod_lt_of_pos (x*x+x / 3) (b:=2147483399) (by decide)
 generalize hy:(x*x+x / 3) % 2147483399=y at b3 b4
 have m1:eK (.int (c % 2147483563)) (.int 69069)=_:=dQ (.inr ⟨by decide,by decide⟩)
 have m2:eK (.int 104723) (.int ((k:Int)+1))=_:=dQ (.inl ⟨by decide,by decide⟩)
 have m3:eK (.int x) (.int x)=_:=dQ (.inl ⟨by omega,by omega⟩)
 have m4:eK (.int y) (.int y)=_:=dQ (.inl ⟨by omega,by omega⟩)
 have hM:(0:Int)<(m:Int):=Int.ofNat_lt.mpr hm
 have n1:=Int.emod_nonneg ((y*y+y / 7) % 2147483647 / 11) (b:=(m:Int)) (by omega)
 have n2:=Int.emod_lt_of_pos ((y*y+y / 7) % 2147483647 / 11) hM
 have q1:gn (.int c) (.int 2147483563)=_:=dP (by decide)
 have q2:gn (.int (c % 2147483563*69069+104723*((k:Int)+1))) (.int 2147483563)=_:=dP (by decide)
 have q3:kJ (.int x) (.int 3)=_:=gm (by decide) (by decide)
 have q4:gn (.int (x*x+x / 3)) (.int 2147483399)=_:=dP (by decide)
 have q5:kJ (.int y) (.int 7)=_:=gm (by decide) (by decide)
 have q6:gn (.int (y*y+y / 7)) (.int 2147483647)=_:=dP (by decide)
 have q7:kJ (.int ((y*y+y / 7) % 2147483647)) (.int 11)=_:=gm (by decide) (by decide)
 have q8:gn (.int ((y*y+y / 7) % 2147483647 / 11)) (.int (m:Int))=_:=dP hM
 refine⟨((y*y+y / 7) % 2147483647 / 11 % (m:Int)).toNat,by omega,?_⟩
 rw[Int.toNat_of_nonneg n1]
 rw[hx] at q2
 rw[hy] at q4
 simp only[aF,i1,bV,aS,cS,bh,ak,d2,dV,dC,dA,aC,aN,ah,hc,List.map_cons,List.map_nil,List.cons_append,List.nil_append,List.length_cons,List.length_nil,List.getElem?_cons_zero,List.getElem?_cons_succ,List.replicate,List.set_cons_zero,List.set_cons_succ,Nat.reduceAdd,Nat.reduceSub,if_true,eI,m1,m2,m3,m4,q1,q2,q3,q4,q5,q6,q7,q8]
theorem uo{α:Type}(a:α):noex (M.ret a)=M.ret a:=rfl
theorem oj{put:D→aT→Option aT}{body:DS}{I:Nat→aT→Prop}:∀(ds:List D) (i:Nat) (ρ:aT),I i ρ→
 (∀j d,ds[j]? =some d→∀ρ,I (i+j) ρ→∃ρ1 ρ2,put d ρ=some ρ1∧body ρ1=M.ret (.nx ρ2)∧I (i+j+1) ρ2)→∃ρ',forL put body ds ρ=M.ret (.nx ρ')∧I (i+ds.length) ρ'
 |[],i,ρ,h,_=>⟨ρ,rfl,h⟩
 |d::ds,i,ρ,h,step=>by
  obtain⟨ρ1,ρ2,e1,e2,h2⟩:=step 0 d rfl ρ h
  obtain⟨ρ',e3,h3⟩:=oj (I:=I) ds (i+1) ρ2 h2 fun j d' hd ρ hI=>by
   have:=step (j+1) d' hd ρ (by rw[show i+(j+1)=i+1+j by omega];exact hI)
   rw[show i+(j+1)+1=i+1+j+1 by omega] at this
   exact this
  refine⟨ρ',?_,?_⟩
  ·show (match put d ρ with | none=>M.stuck | some ρ1=>body ρ1>>=fun o=>match o with | .nx ρ2=>forL put body ds ρ2 | .rt v=>M.ret (.rt v))=_
   rw[e1]
   show (body ρ1>>=fun o=>match o with | .nx ρ2=>forL put body ds ρ2 | .rt v=>M.ret (.rt v))=_
   rw[e2]
   exact e3
  ·rw[show i+(d::ds).length=i+1+ds.length by simp;omega]
   exact h3
theorem lr{f:D→M (Option D)}{Pr:D→Prop}:∀(ds:List D),(∀d∈ds,∃y,f d=M.ret (some y)∧Pr y)→∃ys,bL f ds=M.ret ys∧ys.length=ds.length∧∀y∈ys,Pr y
 |[],_=>⟨[],rfl,rfl,fun _ h=>by cases h⟩
 |d::ds,h=>by
  obtain⟨y,e,hy⟩:=h d (List.mem_cons_self ..)
  obtain⟨ys,e2,hl,hp⟩:=lr ds fun d' hd=>h d' (List.mem_cons_of_mem _ hd)
  refine⟨y::ys,?_,by simp[hl],fun z hz=>?_⟩
  ·rw[bM,e,ah,e2]
   rfl
  ·cases hz with
   |head=>exact hy
   |tail _ hz=>exact hp z hz
theorem dO{f:D→M (Option D)}{g:D→D}:∀(ds:List D),(∀d∈ds,f d=M.ret (some (g d)))→bL f ds=M.ret (ds.map g)
 |[],_=>rfl
 |d::ds,h=>by
  rw[bM,h d (List.mem_cons_self ..),ah,dO ds fun d' hd=>h d' (List.mem_cons_of_mem _ hd)]
  rfl
def kK(x:Str):Bool:=!(Builtin.Str.occurrences ("abcdef":Str) x 0 ("abcdef":Str).length 1).isEmpty
structure Row (W:Nat) (r:Str):Prop where
 len:r.length=W
 let':∀c∈r.cps.toList,kK ⟨#[c]⟩=true
structure Good (bd:List Str) (W:Nat):Prop where
 r1:1≤bd.length
 r5:bd.length≤5
 w1:1≤W
 w5:W≤5
 rows:∀r∈bd,Row W r
theorem pB:∀(ys:List D),(∀y∈ys,∃c,y= .str ⟨#[c]⟩∧kK ⟨#[c]⟩=true)→∃xs,gc ys=some xs∧xs.length=ys.length∧(xs.map (·.length)).sum=ys.length∧Row ys.length (bX xs)
 |[],_=>⟨[],rfl,rfl,rfl,rfl,fun c h=>by cases h⟩
 |y::ys,h=>by
  obtain⟨c,e,hc⟩:=h y (List.mem_cons_self ..)
  obtain⟨xs,e1,e2,e3,e4⟩:=pB ys fun z hz=>h z (List.mem_cons_of_mem _ hz)
  subst e
  refine⟨⟨#[c]⟩::xs,?_,by simp[e2],?_,?_,fun z hz=>?_⟩
  ·show (gc ys).map _=_
   rw[e1]
   rfl
  ·rw[List.map_cons,List.sum_cons,e3]
   show 1+ys.length=_
   simp
   omega
  ·show ((⟨#[c]⟩:Str)++bX xs).length=_
   rw[da,e4.len]
   show 1+ys.length=_
   simp
   omega
  ·have hz:z∈((⟨#[c]⟩:Str)++bX xs).cps.toList:=hz
   have:((⟨#[c]⟩:Str)++bX xs).cps= #[c]++(bX xs).cps:=rfl
   rw[this] at hz
   have hz:z∈c::(bX xs).cps.toList:=by simpa using hz
   cases hz with
   |head=>exact hc
   |tail _ hz=>exact e4.let' z hz
theorem u4{lo:Int}{n:Nat}{d:D}(h:d∈eA lo n):∃i:Nat,i<n∧d= .int (lo+(i:Int)):=by
 unfold eA at h
 obtain⟨i,hi,e⟩:=List.mem_map.mp h
 exact⟨i,List.mem_range.mp hi,e.symm⟩
theorem wQ{lo:Int}{n j:Nat}{d:D}(h:(eA lo n)[j]? =some d):j<n∧d= .int (lo+(j:Int)):=by
 unfold eA at h
 rw[List.getElem?_map] at h
 by_cases hj:j<n
 ·rw[List.getElem?_range hj] at h
  cases h
  exact⟨hj,rfl⟩
 ·rw[List.getElem?_eq_none (by simpa using hj)] at h
  cases h
theorem eZ(lo:Int)(n:Nat):(eA lo n).length=n:=by simp[eA]
abbrev fz(d:D):Option Sl:=some (.fz d)
theorem hJ{δe:DE}{ρ:aT}{d:D}:dg 0 bc δe ρ d=(δe (fz d::ρ)>>=fun y=>M.ret (some y)):=rfl
theorem tj{δt:DT}{δe:DE}{ρ:aT}{d:D}:dg 0 δt δe ρ d=(δt (fz d::ρ)>>=fun b=>if b then δe (fz d::ρ)>>=fun y=>M.ret (some y) else M.ret none):=rfl
theorem ar{a b:DS}{ρ ρ':aT}{o:M Out}(h:a ρ=M.ret (.nx ρ'))(h2:b ρ'=o):aS a b ρ=o:=by
 unfold aS
 rw[h]
 exact h2
theorem cQ{a b:DS}{ρ:aT}{d:D}(h:a ρ=M.ret (.rt d)):aS a b ρ=M.ret (.rt d):=by
 unfold aS
 rw[h]
 rfl
theorem bq{i:Nat}{δ:DE}{ρ:aT}{d:D}(h:δ ρ=M.ret d):cS i δ ρ=M.ret (.nx (ρ.set i (fz d))):=by
 unfold cS
 rw[h]
 rfl
theorem e7{c:DT}{a b:DS}{ρ:aT}{o:M Out}(h:c ρ=M.ret true)(h2:a ρ=o):g7 c a b ρ=o:=by
 unfold g7
 rw[h]
 exact h2
theorem cH{c:DT}{a b:DS}{ρ:aT}{o:M Out}(h:c ρ=M.ret false)(h2:b ρ=o):g7 c a b ρ=o:=by
 unfold g7
 rw[h]
 exact h2
theorem aA{δ:DE}{ρ:aT}{d:D}(h:δ ρ=M.ret d):bh δ ρ=M.ret (.rt d):=by
 unfold bh
 rw[h]
 rfl
theorem b5{δ:DE}{ρ:aT}{d:D}(h:δ ρ=M.ret d):gQ δ ρ=M.ret (.nx ρ):=by
 unfold gQ
 rw[h]
 rfl
theorem aZ{n:Nat}{τ:DS}{ds:List D}{d:D}(h:τ (ds.map (fun d=>some (Sl.fz d))++List.replicate (n - ds.length) none)=M.ret (.rt d)):bV n τ ds=M.ret d:=by
 unfold bV
 rw[h]
 rfl
theorem m9{n:Nat}{τ:DS}{ds:List D}{ρ:aT}(h:τ (ds.map (fun d=>some (Sl.fz d))++List.replicate (n - ds.length) none)=M.ret (.nx ρ)):bV n τ ds=M.ret .non:=by
 unfold bV
 rw[h]
 rfl
theorem u9{put:D→aT→Option aT}{δi:DA}{b:DS}{ρ:aT}{ds:List D}{o:Out}(h:δi ρ=M.ret ds)(h2:forL put b ds ρ=M.ret o):noex (iy put δi b ρ)=M.ret o:=by
 unfold iy
 rw[h,ah,h2]
 rfl
theorem dz{is:List Nat}{τ:DS}{ρ ρ':aT}(h:τ ρ=M.ret (.nx ρ')):f6 is τ ρ=M.ret (.nx (fgt is ρ')):=by
 unfold f6
 rw[h]
 rfl
theorem bz{n:Nat}{δi:DA}{δt:DT}{δe:DE}{ρ:aT}{ds ys:List D}(h:δi ρ=M.ret ds)(h2:bL (dg n δt δe ρ) ds=M.ret ys)(h3:ys.length≤lim):aW n δi δt δe ρ=M.ret (.lst ys):=by
 unfold aW
 rw[h,ah,h2,uo,ah,uf h3]
theorem ix{n:Nat}(h:n≤4096):gP [.int (n:Int)]=M.ret (eA 0 n):=by
 show (if -4096≤(n:Int)∧(n:Int)≤4096 then M.ret (eA 0 (n:Int).toNat) else M.stuck)=_
 rw[if_pos ⟨by omega,by omega⟩]
 rfl
structure Alpha (al:Str):Prop where
 pos:0<al.length
 ok:∀c∈al.cps.toList,kK ⟨#[c]⟩=true
theorem xQ:Alpha "ab"∧Alpha "abc"∧Alpha "aab"∧Alpha "fa":=by
 refine⟨⟨by decide+kernel,?_⟩,⟨by decide+kernel,?_⟩,⟨by decide+kernel,?_⟩,⟨by decide+kernel,?_⟩⟩<;>decide+kernel
theorem tN{x:Str}{i:Nat}(h:i<x.length):∃c,c∈x.cps.toList∧x.cps.toList[i]? =some c∧fC (.str x) (.int (i:Int))=M.ret (.str ⟨#[c]⟩):=by
 have h:i<x.cps.toList.length:=by rw[Array.length_toList];exact h
 refine⟨x.cps.toList[i],List.getElem_mem h,List.getElem?_eq_getElem h,?_⟩
 show (match L2.atI x.cps.toList (i:Int) with | some c=>M.ret (D.str ⟨#[c]⟩) | none=>M.stuck)=_
 rw[dN (List.getElem?_eq_getElem h)]
abbrev brd(bd:List Str):D:= .tup (bd.map D.str)
abbrev sgn(at' mo:Nat)(ns:List Int)(W:Nat)(al:Str)(bd:List Str)(R:Nat)(x7 x8:Option Sl):aT:=[fz (.scr ns),fz (.int (at':Int)),fz (.int (mo:Int)),fz (.int (R:Int)),fz (.int (W:Int)),fz (.str al),fz (brd bd),x7,x8]
def DN:DE:=aW 0 (fun ρ=>(aC (dV 4) aN) ρ>>=gP) bc (d2 fC (dV 6) (ak 3 aF (aC (dV 1) (aC (d2 cR (d2 cR (d2 cR (dV 2) (dC (.int 3))) (d2 eK (dC (.int 7)) (dV 8))) (dV 0)) (aC (dA bg (aC (dV 6) aN)) aN)))))
theorem sI(at' mo:Nat)(ns:List Int)(hl:ns.length≤63)(al:Str)(ha:Alpha al)(j W R:Nat)(hW:W≤5)(bd:List Str)(x8:Option Sl):
 ∃ys,DN (sgn at' mo ns W al bd R (fz (.int (0+(j:Int)))) x8)=M.ret (.lst ys)∧ys.length=W∧∀y∈ys,∃c,y= .str ⟨#[c]⟩∧kK ⟨#[c]⟩=true:=by
 obtain⟨ys,e,Aa,hp⟩:=lr (f:=dg 0 bc (d2 fC (dV 6) (ak 3 aF (aC (dV 1) (aC (d2 cR (d2 cR (d2 cR (dV 2) (dC (.int 3))) (d2 eK (dC (.int 7)) (dV 8))) (dV 0)) (aC (dA bg (aC (dV 6) aN)) aN)))))
  (sgn at' mo ns W al bd R (fz (.int (0+(j:Int)))) x8)) (Pr:=fun y=>∃c,y= .str ⟨#[c]⟩∧kK ⟨#[c]⟩=true) (eA 0 W) fun d hd=>by
  obtain⟨i,hi,rfl⟩:=u4 hd
  obtain⟨v,hv,e⟩:=cZ ns hl (at'+3+7*j+i) al.length ha.pos
  obtain⟨c,hc,_,e2⟩:=tN hv
  refine⟨.str ⟨#[c]⟩,?_,c,rfl,ha.ok c hc⟩
  rw[hJ]
  have k:(at':Int)+3+7*(0+(j:Int))+(0+(i:Int))=((at'+3+7*j+i:Nat):Int):=by omega
  have m1:eK (.int 7) (.int (0+(j:Int)))=M.ret (.int (7*(0+(j:Int)))):=dQ (.inl ⟨by decide,by decide⟩)
  simp only[ak,d2,dV,dC,dA,aC,aN,ah,List.length_cons,List.length_nil,List.getElem?_cons_zero,List.getElem?_cons_succ,Nat.reduceAdd,if_true,eI,m1,k,bg,e,e2]
 refine⟨ys,bz (ix (n:=W) (by omega)) e (by rw[Aa,eZ,c5];omega),by rw[Aa,eZ],hp⟩
def DP:DS:=cS 6 (d2 oq (dV 6) (dA dS (aC (dM jL joinM (dC (.str "")) (aC (dV 8) aN)) aN)))
theorem vw(at' mo:Nat)(ns:List Int)(W:Nat)(al:Str)(bd:List Str)(R:Nat)(x7:Option Sl)(ys:List D)(hb:bd.length≤5)(hy:ys.length≤5)(s3:∀y∈ys,∃c,y= .str ⟨#[c]⟩∧kK ⟨#[c]⟩=true):
 ∃r,Row ys.length r∧DP (sgn at' mo ns W al bd R x7 (fz (.lst ys)))=M.ret (.nx (sgn at' mo ns W al (bd++[r]) R x7 (fz (.lst ys)))):=by
 obtain⟨xs,t1,t2,t3,t4⟩:=pB ys s3
 refine⟨bX xs,t4,?_⟩
 have jn:joinM (.str "") [.lst ys]=M.ret (.str (bX xs)):=by
  show (match gc ys with | some (xs:List Str)=>if ("":Str).length=0∧(xs.map (fun x:Str=>x.length)).sum≤lim then M.ret (D.str (bX xs)) else M.stuck | none=>M.stuck)=_
  rw[t1]
  show (if ("":Str).length=0∧(xs.map (fun x:Str=>x.length)).sum≤lim then M.ret (D.str (bX xs)) else M.stuck)=_
  rw[if_pos ⟨rfl,by rw[t3,c5];omega⟩]
 have ct:oq (brd bd) (.tup [.str (bX xs)])=M.ret (brd (bd++[bX xs])):=by
  show (if (bd.map D.str).length+1≤lim then M.ret (D.tup (bd.map D.str++[.str (bX xs)])) else M.stuck)=_
  rw[if_pos (by rw[List.length_map,c5];omega)]
  simp[brd]
 refine(bq (d:=brd (bd++[bX xs])) ?_).trans rfl
 simp only[d2,dV,dC,dA,aC,aN,dM,jL,ah,List.getElem?_cons_zero,List.getElem?_cons_succ,if_true,jn,dS,List.length_cons,List.length_nil,c5,Nat.reduceAdd,Nat.reduceLeDiff,ct]
theorem pN(ns:List Int)(hl:ns.length≤63)(at' mo:Nat)(m0:0<mo)(m5:mo≤5):∃bd W,Good bd W∧bd.length≤mo∧W≤mo∧bD [.scr ns, .int (at':Int), .int (mo:Int)]=M.ret (brd bd):=by
 obtain⟨r,hr,e1⟩:=cZ ns hl at' mo m0
 obtain⟨c,hc,e2⟩:=cZ ns hl (at'+1) mo m0
 obtain⟨a,ha,e3⟩:=cZ ns hl (at'+2) 4 (by decide)
 obtain⟨al,Ec,e4⟩:∃al,Alpha al∧fU (.lst [.str "ab", .str "abc", .str "aab", .str "fa"]) (.int (a:Int))=M.ret (.str al):=by
  obtain⟨a1,a2,a3,a4⟩:=xQ
  match a,ha with
  |0,_=>exact⟨_,a1,rfl⟩
  |1,_=>exact⟨_,a2,rfl⟩
  |2,_=>exact⟨_,a3,rfl⟩
  |3,_=>exact⟨_,a4,rfl⟩
 have k1:(1:Int)+(r:Int)=((r+1:Nat):Int):=by omega
 have k2:(1:Int)+(c:Int)=((c+1:Nat):Int):=by omega
 have BE:aF [.scr ns, .int (at':Int), .int (mo:Int)]=M.ret (.int (r:Int)):=e1
 have BF:aF [.scr ns, .int ((at':Int)+1), .int (mo:Int)]=M.ret (.int (c:Int)):=e2
 have DY:aF [.scr ns, .int ((at':Int)+2), .int 4]=M.ret (.int (a:Int)):=e3
 obtain⟨ρ',f1,bd,f2,f3,f4⟩:=oj (put:=putN 7) (body:=f6 [7,8] (aS (cS 8 DN) DP))
  (I:=fun i ρ=>∃bd,ρ=sgn at' mo ns (c+1) al bd (r+1) none none∧bd.length=i∧∀z∈bd,Row (c+1) z)
  (eA 0 (r+1)) 0 (sgn at' mo ns (c+1) al [] (r+1) none none) ⟨[],rfl,rfl,fun _ h=>by cases h⟩ fun j d hd ρ ⟨bd,hρ,hb,hw⟩=>by
   obtain⟨hj,rfl⟩:=wQ hd
   subst hρ
   obtain⟨ys,s1,s2,s3⟩:=sI at' mo ns hl al Ec j (c+1) (r+1) (by omega) bd none
   obtain⟨vq,t1,t2⟩:=vw at' mo ns (c+1) al bd (r+1) (fz (.int (0+(j:Int)))) ys (by omega) (by omega) s3
   refine⟨_,_,rfl,dz (ar (bq s1) t2),bd++[vq],rfl,by simp[hb],fun z hz=>?_⟩
   rcases List.mem_append.mp hz with h | h
   ·exact hw z h
   ·have h:z=vq:=by simpa using h
    subst h
    rw[s2] at t1
    exact t1
 refine⟨bd,c+1,⟨by rw[f3,eZ];omega,by rw[f3,eZ];omega,by omega,by omega,f4⟩,by rw[f3,eZ];omega,by omega,?_⟩
 subst f2
 refine aZ ?_
 refine ar (bq (d:= .int ((r+1:Nat):Int)) ?_) ?_
 ·simp only[ak,d2,dV,dC,aC,aN,ah,List.map_cons,List.map_nil,List.cons_append,List.nil_append,List.length_cons,List.length_nil,List.getElem?_cons_zero,List.getElem?_cons_succ,Nat.reduceAdd,if_true,eI,BE,k1]
 refine ar (bq (d:= .int ((c+1:Nat):Int)) ?_) ?_
 ·simp only[ak,d2,dV,dC,aC,aN,ah,List.map_cons,List.map_nil,List.cons_append,List.nil_append,List.length_cons,List.length_nil,List.replicate,List.set_cons_zero,List.set_cons_succ,Nat.reduceSub,List.getElem?_cons_zero,List.getElem?_cons_succ,Nat.reduceAdd,if_true,eI,BF,k2]
 refine ar (bq (d:= .str al) ?_) ?_
 ·simp only[ak,d2,dV,dC,dA,aC,aN,ah,List.map_cons,List.map_nil,List.cons_append,List.nil_append,List.length_cons,List.length_nil,List.replicate,List.set_cons_zero,List.set_cons_succ,Nat.reduceSub,List.getElem?_cons_zero,List.getElem?_cons_succ,Nat.reduceAdd,if_true,eI,DY,eR,c5,Nat.reduceLeDiff,e4]
 refine ar (bq (d:= .tup []) rfl) ?_
 refine ar (u9 (ix (n:=r+1) (by omega)) f1) ?_
 exact aA rfl
theorem lg(ns:List Int)(hl:ns.length≤63)(at' mo:Nat)(m0:0<mo)(m5:mo≤5):∃bd W,Good bd W∧bD [.scr ns, .int (at':Int), .int (mo:Int)]=M.ret (brd bd):=by
 obtain⟨bd,W,h1,_,_,h2⟩:=pN ns hl at' mo m0 m5
 exact⟨bd,W,h1,h2⟩
def Plain:D→Prop
 | .non | .bl _ | .int _ | .str _ | .tup _ | .lst _=>True
 |_=>False
def isStr:D→Bool
 | .str _=>true
 |_=>false
def isTup:D→Bool
 | .tup _=>true
 |_=>false
theorem dj{d:D}(h:Plain d):ez [d, .raw (.ty "str")]=M.ret (.bl (isStr d)):=by
 cases d<;>first | rfl | exact h.elim
theorem jo{d:D}(h:Plain d):ez [d, .raw (.ty "tuple")]=M.ret (.bl (isTup d)):=by
 cases d<;>first | rfl | exact h.elim
def mI:D→Bool
 | .str x=>(x.length==1)&&kK x
 |_=>false
theorem cg{ρ:aT}{i:Nat}{d:D}(h:ρ[i]? =some (fz d)):dV i ρ=M.ret d:=by
 unfold dV
 rw[h]
theorem eq_int(i j:Int):jl (.int i) (.int j)=M.ret (.bl (i==j)):=rfl
theorem ne_int(i j:Int):nN (.int i) (.int j)=M.ret (.bl (!(i==j))):=rfl
theorem len_str(x:Str):bg [.str x]=M.ret (.int (x.length:Int)):=rfl
theorem in_str(x:Str):eJ false (.str x) (.str "abcdef")=M.ret (.bl (kK x)):=rfl
theorem lQ(a b:Nat):((a:Int)==(b:Int))=(a==b):=by
 by_cases h:a=b
 ·subst h;simp
 ·have h2:¬(a:Int)=(b:Int):=by omega
  rw[beq_eq_false_iff_ne.mpr h,beq_eq_false_iff_ne.mpr h2]
theorem vW{d:D}(h:Plain d){i:Nat}{ρ:aT}(hρ:ρ[i]? =some (fz d)):
 cG (dA ez (aC (dV i) (aC (dC (.raw (.ty "str"))) aN))) (cG (d2 jl (dA bg (aC (dV i) aN)) (dC (.int 1))) (d2 (eJ false) (dV i) (dC (.str "abcdef")))) ρ=M.ret (.bl (mI d)):=by
 have hv:=cg hρ
 have e1:=lQ
 cases d with
 |str x=>
  have k:((x.length:Int)==1)=(x.length==1):=lQ x.length 1
  simp only[cG,dA,aC,aN,dC,d2,hv,ah,dj h,isStr,sS,if_true,len_str,eq_int,k,in_str,mI]
  cases x.length==1<;>rfl
 |non=>simp only[cG,dA,aC,aN,dC,d2,hv,ah,dj h,isStr,sS,if_false,Bool.false_eq_true,mI]
 |bl b=>simp only[cG,dA,aC,aN,dC,d2,hv,ah,dj h,isStr,sS,if_false,Bool.false_eq_true,mI]
 |int b=>simp only[cG,dA,aC,aN,dC,d2,hv,ah,dj h,isStr,sS,if_false,Bool.false_eq_true,mI]
 |tup b=>simp only[cG,dA,aC,aN,dC,d2,hv,ah,dj h,isStr,sS,if_false,Bool.false_eq_true,mI]
 |lst b=>simp only[cG,dA,aC,aN,dC,d2,hv,ah,dj h,isStr,sS,if_false,Bool.false_eq_true,mI]
 |raw _=>exact h.elim
 |exc _=>exact h.elim
 |scr _=>exact h.elim
 |dct _ _=>exact h.elim
 |dci _ _=>exact h.elim
theorem fJ{d:D}(h:Plain d):bo [d]=M.ret (.bl (mI d)):=aZ (aA (vW h rfl))
def fq(x:Str):Bool:=x.cps.toList.all fun c=>kK ⟨#[c]⟩
def je:D→Bool
 | .str x=>(decide (1≤x.length)&&decide (x.length≤8))&&fq x
 |_=>false
theorem rF(l:List Bool):bools (l.map D.bl)=some l:=by
 induction l with
 |nil=>rfl
 |cons b r ih=>show (bools (r.map D.bl)).map _=_;rw[ih];rfl
theorem all_map(l:List Bool):allM [.lst (l.map D.bl)]=M.ret (.bl (l.all id)):=by
 show (match bools (l.map D.bl) with | some bs=>M.ret (D.bl (bs.all id)) | none=>M.stuck)=_
 rw[rF]
theorem s9{δ:DE}{ρ:aT}{n:Nat}(h:δ ρ=M.ret (.int (n:Int))):
 eu (pS (fun i j=>decide (i≤j)) (fun i j=>decide (i≤j)) (dC (.int 1)) δ (dC (.int 8))) ρ=M.ret (decide (1≤n)&&decide (n≤8)):=by
 have k1:decide ((1:Int)≤(n:Int))=decide (1≤n):=by by_cases h:1≤n<;>simp[h]<;>omega
 have k2:decide ((n:Int)≤8)=decide (n≤8):=by by_cases h:n≤8<;>simp[h]<;>omega
 simp only[eu,pS,dC,h,ah,k1,k2,gI,sS]
 cases decide (1≤n)<;>rfl
theorem p5{d:D}(h:Plain d):c3 [d]=M.ret (.bl (je d)):=by
 refine aZ ?_
 have hρ:([d].map (fun d=>some (Sl.fz d))++List.replicate (1 - [d].length) none)=[fz d]:=rfl
 rw[hρ]
 have hv:dV 0 [fz d]=M.ret d:=rfl
 have no:isStr d=false→pE [fz d]=M.ret (.rt (.bl false)):=fun hs=>by
  refine cQ (e7 ?_ (aA rfl))
  simp only[kI,bN,bO,dA,aC,aN,dC,hv,ah,dj h,hs,pz,Bool.not_false,if_true]
 cases d with
 |str x=>
  have hi:bO (dA ez (aC (dV 0) (aC (dC (.raw (.ty "str"))) aN))) [fz (.str x)]=M.ret true:=by
   simp only[bO,dA,aC,aN,dC,hv,ah,dj h,isStr,pz]
  have hl:dA bg (aC (dV 0) aN) [fz (.str x)]=M.ret (.int (x.length:Int)):=rfl
  have hc:=s9 hl
  by_cases hr:(decide (1≤x.length)&&decide (x.length≤8))=true
  ·rw[hr] at hc
   refine ar (cH ?_ (ρ:=[fz (.str x)]) rfl) (aA ?_)
   ·unfold kI bN
    rw[hi,ah,ah,hc]
    rfl
   ·have hb:x.length≤8:=by simp only[Bool.and_eq_true,decide_eq_true_eq] at hr;exact hr.2
    have cm:aW 0 (fun ρ=>(dV 0) ρ>>=gS) bc (ak 1 bo (aC (dV 0) aN)) [fz (.str x)]=M.ret (.lst ((x.cps.toList.map fun c=>kK ⟨#[c]⟩).map D.bl)):=by
     refine bz (ds:=signs x) rfl ?_ ?_
     ·have:=dO (f:=dg 0 bc (ak 1 bo (aC (dV 0) aN)) [fz (.str x)]) (g:=fun d=>D.bl (mI d)) (signs x) fun d hd=>by
       rw[hJ]
       obtain⟨c,_,rfl⟩:=List.mem_map.mp hd
       show (bo [.str ⟨#[c]⟩]>>=fun y=>M.ret (some y))=_
       rw[fJ (d:= .str ⟨#[c]⟩) trivial]
       rfl
      rw[this]
      unfold signs
      rw[List.map_map,List.map_map]
      congr 1
     ·rw[List.length_map,List.length_map,Array.length_toList,c5]
      exact Nat.le_trans hb (by decide)
    rw[cf (aK cm rfl),all_map]
    show M.ret (D.bl ((x.cps.toList.map fun c=>kK ⟨#[c]⟩).all id))=M.ret (D.bl ((decide (1≤x.length)&&decide (x.length≤8))&&fq x))
    rw[hr]
    unfold fq
    rw[List.all_map]
    rfl
  ·have hr:(decide (1≤x.length)&&decide (x.length≤8))=false:=by simpa using hr
   rw[hr] at hc
   have:je (.str x)=false:=by
    show ((decide (1≤x.length)&&decide (x.length≤8))&&fq x)=false
    rw[hr];rfl
   rw[this]
   refine cQ (e7 ?_ (aA rfl))
   unfold kI bN
   rw[hi,ah,ah,hc]
   rfl
 |non=>exact no rfl
 |bl b=>exact no rfl
 |int b=>exact no rfl
 |tup b=>exact no rfl
 |lst b=>exact no rfl
 |raw _=>exact h.elim
 |exc _=>exact h.elim
 |scr _=>exact h.elim
 |dct _ _=>exact h.elim
 |dci _ _=>exact h.elim
def fW:D→Nat
 | .str x=>x.length
 |_=>0
def jt:D→Bool
 | .tup ds=>(decide (1≤ds.length)&&decide (ds.length≤8))&&(ds.all je&&ds.all fun d=>fW d==fW (ds.headD .non))
 |_=>false
def Plain2:D→Prop
 | .tup ds=>∀d∈ds,Plain d
 |d=>Plain d
theorem Plain2.plain{d:D}(h:Plain2 d):Plain d:=by
 cases d<;>first | exact h | exact trivial
theorem EO{ρ:aT}{i:Nat}{ds:List D}(h:ρ[i]? =some (fz (.tup ds))):fB (dV i) ρ=M.ret ds:=by
 unfold fB
 rw[cg h]
 rfl
theorem vT{ds:List D}:bg [.tup ds]=M.ret (.int (ds.length:Int)):=rfl
theorem Cs{ds:List D}{d:D}{r:List D}(h:ds=d::r):bB (.tup ds) (.int 0)=M.ret d:=by
 subst h
 show (match L2.atI (d::r) ((0:Nat):Int) with | some d=>M.ret d | none=>M.stuck)=_
 rw[dN (x:=d) rfl]
theorem wR{d:D}(h:je d=true):∃x,d= .str x:=by
 cases d<;>first | exact⟨_,rfl⟩ | cases h
theorem rP{d:D}(h:Plain d):kI (bN (bO (dA ez (aC (dV 0) (aC (dC (.raw (.ty "tuple"))) aN))))) (bN (eu (pS (fun i j=>decide (i≤j)) (fun i j=>decide (i≤j)) (dC (.int 1)) (dA bg (aC (dV 0) aN)) (dC (.int 8))))) [fz d]=
 M.ret (match d with | .tup ds=>!(decide (1≤ds.length)&&decide (ds.length≤8)) | _=>true):=by
 have hv:dV 0 [fz d]=M.ret d:=rfl
 have no:isTup d=false→kI (bN (bO (dA ez (aC (dV 0) (aC (dC (.raw (.ty "tuple"))) aN))))) (bN (eu (pS (fun i j=>decide (i≤j)) (fun i j=>decide (i≤j)) (dC (.int 1)) (dA bg (aC (dV 0) aN)) (dC (.int 8))))) [fz d]=M.ret true:=fun hs=>by
  simp only[kI,bN,bO,dA,aC,aN,dC,hv,ah,jo h,hs,pz,Bool.not_false,if_true]
 cases d with
 |tup ds=>
  have hi:bO (dA ez (aC (dV 0) (aC (dC (.raw (.ty "tuple"))) aN))) [fz (.tup ds)]=M.ret true:=by
   simp only[bO,dA,aC,aN,dC,hv,ah,jo h,isTup,pz]
  have hl:dA bg (aC (dV 0) aN) [fz (.tup ds)]=M.ret (.int (ds.length:Int)):=rfl
  unfold kI bN
  rw[hi,ah,ah,s9 hl]
  rfl
 |non=>exact no rfl
 |bl b=>exact no rfl
 |int b=>exact no rfl
 |str b=>exact no rfl
 |lst b=>exact no rfl
 |raw _=>exact h.elim
 |exc _=>exact h.elim
 |scr _=>exact h.elim
 |dct _ _=>exact h.elim
 |dci _ _=>exact h.elim
theorem all_rows{ds:List D}(h:∀d∈ds,Plain d)(hl:ds.length≤8):dA allM (aC (aW 0 (fB (dV 0)) bc (ak 1 c3 (aC (dV 0) aN))) aN) [fz (.tup ds)]=M.ret (.bl (ds.all je)):=by
 have cm:aW 0 (fB (dV 0)) bc (ak 1 c3 (aC (dV 0) aN)) [fz (.tup ds)]=M.ret (.lst ((ds.map je).map D.bl)):=by
  refine bz (ds:=ds) rfl ?_ (by rw[List.length_map,List.length_map,c5];omega)
  rw[List.map_map]
  refine dO (g:=D.bl∘je) ds fun d hd=>?_
  rw[hJ]
  show (c3 [d]>>=fun y=>M.ret (some y))=_
  rw[p5 (h d hd)]
  rfl
 rw[cf (aK cm rfl),all_map,List.all_map]
 rfl
theorem all_lens{ds:List D}(hs:∀d∈ds,∃x,d= .str x)(h0:1≤ds.length)(hl:ds.length≤8):
 dA allM (aC (aW 0 (fB (dV 0)) bc (d2 jl (dA bg (aC (dV 0) aN)) (dA bg (aC (d2 bB (dV 1) (dC (.int 0))) aN)))) aN) [fz (.tup ds)]=M.ret (.bl (ds.all fun d=>fW d==fW (ds.headD .non))):=by
 obtain⟨d0,r,e0⟩:∃d0 r,ds=d0::r:=by
  cases ds with
  |nil=>simp at h0
  |cons a r=>exact⟨a,r,rfl⟩
 have hh:ds.headD .non=d0:=by rw[e0];rfl
 obtain⟨x0,Dv⟩:=hs d0 (by rw[e0];exact List.mem_cons_self ..)
 have cm:aW 0 (fB (dV 0)) bc (d2 jl (dA bg (aC (dV 0) aN)) (dA bg (aC (d2 bB (dV 1) (dC (.int 0))) aN))) [fz (.tup ds)]=M.ret (.lst ((ds.map fun d=>fW d==fW (ds.headD .non)).map D.bl)):=by
  refine bz (ds:=ds) rfl ?_ (by rw[List.length_map,List.length_map,c5];omega)
  rw[List.map_map]
  refine dO (g:=D.bl∘fun d=>fW d==fW (ds.headD .non)) ds fun d hd=>?_
  rw[hJ]
  obtain⟨x,rfl⟩:=hs d hd
  have k:((x.length:Int)==(x0.length:Int))=(x.length==x0.length):=lQ _ _
  have i0:bB (.tup ds) (.int 0)=M.ret (.str x0):=by rw[Cs e0,Dv]
  have Em:ds.headD .non= .str x0:=by rw[hh,Dv]
  simp only[d2,dA,aC,aN,dC,dV,ah,List.getElem?_cons_zero,List.getElem?_cons_succ,len_str,i0,eq_int,k,Function.comp,fW,Em]
 rw[cf (aK cm rfl),all_map,List.all_map]
 rfl
theorem mE{d:D}(h:Plain2 d):d5 [d]=M.ret (.bl (jt d)):=by
 refine aZ ?_
 have hρ:([d].map (fun d=>some (Sl.fz d))++List.replicate (1 - [d].length) none)=[fz d]:=rfl
 rw[hρ]
 have hf:=rP h.plain
 have no:(∀ds,d≠ .tup ds)→kD [fz d]=M.ret (.rt (.bl (jt d))):=fun hn=>by
  cases d<;>first | exact absurd rfl (hn _) | exact cQ (e7 hf (aA rfl))
 cases d with
 |tup ds=>
  have hf:_=M.ret (!(decide (1≤ds.length)&&decide (ds.length≤8))):=hf
  by_cases hr:(decide (1≤ds.length)&&decide (ds.length≤8))=true
  ·rw[hr] at hf
   have hb:=hr
   simp only[Bool.and_eq_true,decide_eq_true_eq] at hb
   have e:jt (.tup ds)=(ds.all je&&ds.all fun d=>fW d==fW (ds.headD .non)):=by
    show ((decide (1≤ds.length)&&decide (ds.length≤8))&&_)=_
    rw[hr,Bool.true_and]
   rw[e]
   have a1:=all_rows h hb.2
   refine ar (cH hf rfl) ?_
   cases hc:ds.all je with
   |false=>
    rw[hc] at a1
    refine cQ (e7 ?_ (aA rfl))
    unfold bN bO
    rw[a1]
    rfl
   |true=>
    rw[hc] at a1
    refine ar (cH ?_ rfl) (aA ?_)
    ·unfold bN bO
     rw[a1]
     rfl
    ·rw[Bool.true_and]
     exact all_lens (fun d hd=>wR (List.all_eq_true.mp hc d hd)) hb.1 hb.2
  ·have hr:(decide (1≤ds.length)&&decide (ds.length≤8))=false:=by simpa using hr
   rw[hr] at hf
   have e:jt (.tup ds)=false:=by
    show ((decide (1≤ds.length)&&decide (ds.length≤8))&&_)=_
    rw[hr];rfl
   rw[e]
   exact cQ (e7 hf (aA rfl))
 |non=>exact no fun _ z=>by cases z
 |bl b=>exact no fun _ z=>by cases z
 |int b=>exact no fun _ z=>by cases z
 |str b=>exact no fun _ z=>by cases z
 |lst b=>exact no fun _ z=>by cases z
 |raw _=>exact h.elim
 |exc _=>exact h.elim
 |scr _=>exact h.elim
 |dct _ _=>exact h.elim
 |dci _ _=>exact h.elim
structure Brd (ob:List Str) (V:Nat):Prop where
 r1:1≤ob.length
 r8:ob.length≤8
 w1:1≤V
 w8:V≤8
 rows:∀r∈ob,Row V r
theorem Good.brd{bd:List Str}{W:Nat}(hg:Good bd W):Brd bd W:=⟨hg.r1,by have:=hg.r5;omega,hg.w1,by have:=hg.w5;omega,hg.rows⟩
theorem Brd.board{ob:List Str}{V:Nat}(h:Brd ob V):jt (brd ob)=true:=by
 have Ce:∀r∈ob,je (.str r)=true:=fun r hr=>by
  have q:=h.rows r hr
  show ((decide (1≤r.length)&&decide (r.length≤8))&&fq r)=true
  rw[q.len]
  have a:decide (1≤V)=true:=decide_eq_true h.w1
  have b:decide (V≤8)=true:=decide_eq_true h.w8
  rw[a,b]
  show fq r=true
  exact List.all_eq_true.mpr fun c hc=>q.let' c hc
 have h0:fW ((ob.map D.str).headD .non)=V:=by
  have:=h.r1
  have hr:=h.rows
  cases ob with
  |nil=>simp at this
  |cons x l=>exact(hr x (List.mem_cons_self ..)).len
 show ((decide (1≤(ob.map D.str).length)&&decide ((ob.map D.str).length≤8))&&((ob.map D.str).all je&&(ob.map D.str).all fun d=>fW d==fW ((ob.map D.str).headD .non)))=true
 rw[h0,List.length_map,decide_eq_true h.r1,decide_eq_true h.r8]
 have a:(ob.map D.str).all je=true:=List.all_eq_true.mpr fun d hd=>by
  obtain⟨r,hr,rfl⟩:=List.mem_map.mp hd
  exact Ce r hr
 have b:((ob.map D.str).all fun d=>fW d==V)=true:=List.all_eq_true.mpr fun d hd=>by
  obtain⟨r,hr,rfl⟩:=List.mem_map.mp hd
  show (r.length==V)=true
  rw[(h.rows r hr).len]
  simp
 rw[a,b]
 rfl
theorem rG{bd:List Str}:Plain2 (brd bd):=fun d hd=>by
 obtain⟨r,_,rfl⟩:=List.mem_map.mp hd
 trivial
theorem jB{δ:DE}{ρ:aT}{b:Bool}(h:δ ρ=M.ret (.bl b)):bO δ ρ=M.ret b:=by
 unfold bO
 rw[h]
 rfl
theorem ku{δ:DE}{ρ:aT}{b:Bool}(h:δ ρ=M.ret (.bl b)):eu δ ρ=M.ret b:=by
 unfold eu
 rw[h]
 rfl
theorem mv{τ:DT}{ρ:aT}{b:Bool}(h:τ ρ=M.ret b):bN τ ρ=M.ret (!b):=by
 unfold bN
 rw[h]
 rfl
theorem zR{a c:DT}{ρ:aT}{p q:Bool}(h1:a ρ=M.ret p)(h2:c ρ=M.ret q):kI a c ρ=M.ret (p||q):=by
 unfold kI
 rw[h1,ah]
 cases p
 ·exact h2
 ·rfl
theorem vz{a c:DE}{ρ:aT}{p q:Bool}(h1:a ρ=M.ret (.bl p))(h2:c ρ=M.ret (.bl q)):cG a c ρ=M.ret (.bl (p&&q)):=by
 unfold cG
 rw[h1,ah]
 cases p
 ·rfl
 ·exact h2
theorem Brd.nb{ob:List Str}{V:Nat}(h:Brd ob V):aE [brd ob]=M.ret .non:=by
 refine m9 (ρ:=[fz (brd ob)]) (cH (mv (jB (b:=true) ?_)) rfl)
 refine(ai (ds:=[brd ob]) rfl rfl).trans ?_
 rw[mE rG,h.board]
theorem Brd.len0{ob:List Str}{V:Nat}(h:Brd ob V){i:Nat}{ρ:aT}(hρ:ρ[i]? =some (fz (brd ob))):dA bg (aC (d2 bB (dV i) (dC (.int 0))) aN) ρ=M.ret (.int (V:Int)):=by
 have h1:=h.r1
 have hr:=h.rows
 obtain⟨x,l,e⟩:∃x l,ob=x::l:=by
  cases ob with
  |nil=>simp at h1
  |cons x l=>exact⟨x,l,rfl⟩
 have hx:x.length=V:=(hr x (by rw[e];exact List.mem_cons_self ..)).len
 have i0:bB (brd ob) (.int 0)=M.ret (.str x):=Cs (show ob.map D.str=D.str x::l.map D.str by rw[e];rfl)
 have k:=aL (g:=bB) (cg hρ) (show dC (.int 0) ρ=M.ret (.int 0) from rfl)
 rw[i0] at k
 rw[cf (aK (xs:=[]) k rfl)]
 show M.ret (D.int (x.length:Int))=_
 rw[hx]
theorem yD{bd:List Str}{i:Nat}{ρ:aT}(hρ:ρ[i]? =some (fz (brd bd))):dA bg (aC (dV i) aN) ρ=M.ret (.int (bd.length:Int)):=by
 have:bg [brd bd]=M.ret (.int (bd.length:Int)):=by
  show M.ret (D.int ((bd.map D.str).length:Int))=_
  rw[List.length_map]
 simp only[dA,aC,aN,cg hρ,ah,this]
def er:D→Bool
 | .int _=>true
 |_=>false
theorem me{d:D}(h:Plain d):bf [d]=M.ret (.bl (er d)):=by
 cases d<;>first | rfl | exact h.elim
def zL(R W:Nat):D→D→Bool
 | .int a, .int b=>(decide (0≤a)&&decide (a<(R:Int)))&&(decide (0≤b)&&decide (b<(W:Int)))
 |_,_=>false
def xf(R W:Nat):D→Bool
 | .tup [u,v]=>zL R W u v
 |_=>false
theorem zN{δ ε:DE}{ρ:aT}{i n:Int}(h:δ ρ=M.ret (.int i))(h2:ε ρ=M.ret (.int n)):
 pS (fun i j=>decide (i≤j)) (fun i j=>decide (i<j)) (dC (.int 0)) δ ε ρ=M.ret (.bl (decide (0≤i)&&decide (i<n))):=by
 simp only[pS,dC,h,h2,ah,gI]
 cases decide (0≤i)<;>rfl
theorem oD{bd:List Str}{W:Nat}(hg:Brd bd W){d:D}(h:Plain2 d):fm [brd bd,d]=M.ret (.bl (xf bd.length W d)):=by
 refine aZ ?_
 have hρ:([brd bd,d].map (fun d=>some (Sl.fz d))++List.replicate (2 - [brd bd,d].length) none)=[fz (brd bd),fz d]:=rfl
 rw[hρ]
 have hv:dV 1 [fz (brd bd),fz d]=M.ret d:=rfl
 have no:isTup d=false→mf [fz (brd bd),fz d]=M.ret (.rt (.bl false)):=fun hs=>by
  refine cQ (e7 ?_ (aA rfl))
  simp only[kI,bN,bO,dA,aC,aN,dC,hv,ah,jo h.plain,hs,pz,Bool.not_false,if_true]
 cases d with
 |tup ds=>
  have hi:bN (bO (dA ez (aC (dV 1) (aC (dC (.raw (.ty "tuple"))) aN)))) [fz (brd bd),fz (.tup ds)]=M.ret false:=by
   simp only[bN,bO,dA,aC,aN,dC,hv,ah,jo h.plain,isTup,pz,Bool.not_true]
  have k:((ds.length:Int)==2)=(ds.length==2):=lQ ds.length 2
  have hl:kI (bN (bO (dA ez (aC (dV 1) (aC (dC (.raw (.ty "tuple"))) aN))))) (eu (d2 nN (dA bg (aC (dV 1) aN)) (dC (.int 2)))) [fz (brd bd),fz (.tup ds)]=M.ret (!(ds.length==2)):=by
   unfold kI
   rw[hi]
   simp only[eu,d2,dA,aC,aN,dC,hv,ah,vT,ne_int,k,sS,Bool.false_eq_true,if_false]
  match ds,h,hl with
  |[],h,hl=>exact cQ (e7 hl (aA rfl))
  |[_],h,hl=>exact cQ (e7 hl (aA rfl))
  |_::_::_::_,h,hl=>
   refine cQ (e7 (hl.trans ?_) (aA rfl))
   simp
  |[u,v],h,hl=>
   refine ar (cH hl rfl) ?_
   have pu:Plain u:=h u (by simp)
   have pv:Plain v:=h v (by simp)
   have w1:ak 1 bf (aC (d2 bB (dV 1) (dC (.int 0))) aN) [fz (brd bd),fz (.tup [u,v])]=M.ret (.bl (er u)):=me pu
   have w2:ak 1 bf (aC (d2 bB (dV 1) (dC (.int 1))) aN) [fz (brd bd),fz (.tup [u,v])]=M.ret (.bl (er v)):=me pv
   have hw:kI (bN (bO (ak 1 bf (aC (d2 bB (dV 1) (dC (.int 0))) aN)))) (bN (bO (ak 1 bf (aC (d2 bB (dV 1) (dC (.int 1))) aN)))) [fz (brd bd),fz (.tup [u,v])]=M.ret (!(er u&&er v)):=by
    unfold kI bN bO
    rw[w1,w2]
    simp only[ah,pz]
    cases er u<;>cases er v<;>rfl
   have bad:(er u&&er v)=false→aS (g7 (kI (bN (bO (ak 1 bf (aC (d2 bB (dV 1) (dC (.int 0))) aN)))) (bN (bO (ak 1 bf (aC (d2 bB (dV 1) (dC (.int 1))) aN))))) (bh (dC (.bl false))) c9) (bh (cG (pS (fun i j=>decide (i≤j)) (fun i j=>decide (i<j)) (dC (.int 0)) (d2 bB (dV 1) (dC (.int 0))) (dA bg (aC (dV 0) aN))) (pS (fun i j=>decide (i≤j)) (fun i j=>decide (i<j)) (dC (.int 0)) (d2 bB (dV 1) (dC (.int 1))) (dA bg (aC (d2 bB (dV 0) (dC (.int 0))) aN))))) [fz (brd bd),fz (.tup [u,v])]=M.ret (.rt (.bl false)):=fun hz=>by
    rw[hz] at hw
    exact cQ (e7 hw (aA rfl))
   match u,v,hw,bad with
   | .int a, .int b,hw,bad=>
     refine ar (cH hw rfl) (aA ?_)
     obtain⟨x0,r,e0⟩:∃x0 r,bd=x0::r:=by
      have:=hg.r1
      cases bd with
      |nil=>simp at this
      |cons x r=>exact⟨x,r,rfl⟩
     have hx:x0.length=W:=(hg.rows x0 (by rw[e0];simp)).len
     have l0:dA bg (aC (dV 0) aN) [fz (brd bd),fz (.tup [.int a, .int b])]=M.ret (.int (bd.length:Int)):=by
      show M.ret (D.int ((bd.map D.str).length:Int))=_
      rw[List.length_map]
     have l1:dA bg (aC (d2 bB (dV 0) (dC (.int 0))) aN) [fz (brd bd),fz (.tup [.int a, .int b])]=M.ret (.int (W:Int)):=by
      have i0:bB (brd bd) (.int 0)=M.ret (.str x0):=Cs (r:=r.map D.str) (by rw[e0];rfl)
      simp only[dA,aC,aN,d2,dC,dV,List.getElem?_cons_zero,ah,i0,len_str,hx]
     have c1:=zN (δ:=d2 bB (dV 1) (dC (.int 0))) (i:=a) rfl l0
     have c2:=zN (δ:=d2 bB (dV 1) (dC (.int 1))) (i:=b) rfl l1
     unfold cG
     rw[c1,ah]
     show (if (decide (0≤a)&&decide (a<(bd.length:Int)))=true then _ else _)=M.ret (D.bl ((decide (0≤a)&&decide (a<(bd.length:Int)))&&(decide (0≤b)&&decide (b<(W:Int)))))
     cases (decide (0≤a)&&decide (a<(bd.length:Int)))
     ·rfl
     ·rw[if_pos rfl,c2,Bool.true_and]
   | .non,_,_,bad=>exact bad rfl
   | .bl _,_,_,bad=>exact bad rfl
   | .str _,_,_,bad=>exact bad rfl
   | .tup _,_,_,bad=>exact bad rfl
   | .lst _,_,_,bad=>exact bad rfl
   | .raw _,_,_,_=>exact pu.elim
   | .exc _,_,_,_=>exact pu.elim
   | .scr _,_,_,_=>exact pu.elim
   | .int a, .non,_,bad=>exact bad rfl
   | .int a, .bl _,_,bad=>exact bad rfl
   | .int a, .str _,_,bad=>exact bad rfl
   | .int a, .tup _,_,bad=>exact bad rfl
   | .int a, .lst _,_,bad=>exact bad rfl
   | .int a, .raw _,_,_=>exact pv.elim
   | .int a, .exc _,_,_=>exact pv.elim
   | .int a, .scr _,_,_=>exact pv.elim
 |non=>exact no rfl
 |bl b=>exact no rfl
 |int b=>exact no rfl
 |str b=>exact no rfl
 |lst b=>exact no rfl
 |raw _=>exact h.elim
 |exc _=>exact h.elim
 |scr _=>exact h.elim
 |dct _ _=>exact h.elim
 |dci _ _=>exact h.elim
abbrev Cell:=Nat×Nat
def cD(c:Cell):D:= .tup [.int (c.1:Int), .int (c.2:Int)]
def On(R W:Nat)(c:Cell):Prop:=c.1<R∧c.2<W
instance {R W:Nat}{c:Cell}:Decidable (On R W c):=by unfold On;infer_instance
theorem sX{c:Cell}:Plain2 (cD c):=fun d hd=>by
 have:d= .int (c.1:Int)∨d= .int (c.2:Int):=by simpa[cD] using hd
 rcases this with rfl | rfl<;>trivial
theorem vx{R W:Nat}{c:Cell}(h:On R W c):xf R W (cD c)=true:=by
 show ((decide ((0:Int)≤(c.1:Int))&&decide ((c.1:Int)<(R:Int)))&&(decide ((0:Int)≤(c.2:Int))&&decide ((c.2:Int)<(W:Int))))=true
 obtain⟨h1,h2⟩:=h
 simp
 omega
theorem Brd.nc{bd:List Str}{W:Nat}(hg:Brd bd W){c:Cell}(h:On bd.length W c):di [brd bd,cD c]=M.ret .non:=by
 refine m9 (ρ:=[fz (brd bd),fz (cD c)]) (cH (mv (jB (b:=true) ?_)) rfl)
 refine(ai (ds:=[brd bd,cD c]) rfl rfl).trans ?_
 rw[oD hg sX,vx h]
def rE(w:Nat):Prop:=w=4∨w=8
def ch(x:Str)(j:Nat):Nat:=x.cps.toList.getD j 0
def at2(bd:List Str)(i j:Nat):Nat:=ch (bd.getD i ⟨#[]⟩) j
abbrev lt(bd:List Str)(c:Cell):Nat:=at2 bd c.1 c.2
def sg(n:Nat):D:= .str ⟨#[n]⟩
theorem wV{x:Str}{c:Nat}(h:c<x.length):fC (.str x) (.int (c:Int))=M.ret (sg (ch x c)):=by
 have h':c<x.cps.toList.length:=by rw[Array.length_toList];exact h
 show (match L2.atI x.cps.toList (c:Int) with | some c=>M.ret (D.str ⟨#[c]⟩) | none=>M.stuck)=_
 rw[dN (List.getElem?_eq_getElem h')]
 unfold sg ch
 rw[List.getD_eq_getElem?_getD,List.getElem?_eq_getElem h']
 rfl
theorem getD_mem{bd:List Str}{i:Nat}(h:i<bd.length):bd.getD i ⟨#[]⟩∈bd:=by
 rw[List.getD_eq_getElem?_getD,List.getElem?_eq_getElem h]
 exact List.getElem_mem h
theorem yu{bd:List Str}{i:Nat}(h:i<bd.length):bB (brd bd) (.int (i:Int))=M.ret (.str (bd.getD i ⟨#[]⟩)):=by
 show (match L2.atI (bd.map D.str) (i:Int) with | some d=>M.ret d | none=>M.stuck)=_
 rw[dN (x:= .str (bd.getD i ⟨#[]⟩)) ?_]
 rw[List.getElem?_map,List.getElem?_eq_getElem h,List.getD_eq_getElem?_getD,List.getElem?_eq_getElem h]
 rfl
theorem kL{bd:List Str}{W:Nat}(hg:Brd bd W){c:Cell}(h:On bd.length W c):dh [brd bd,cD c]=M.ret (sg (lt bd c)):=by
 refine aZ (aA ?_)
 refine(aL (x:= .str (bd.getD c.1 ⟨#[]⟩)) (y:= .int (c.2:Int)) ((aL (x:=brd bd) (y:= .int (c.1:Int)) rfl rfl).trans (yu h.1)) rfl).trans ?_
 exact wV (by rw[(hg.rows _ (getD_mem h.1)).len];exact h.2)
theorem xl(a b:Nat):jl (sg a) (sg b)=M.ret (.bl (decide (a=b))):=by
 show M.ret (D.bl (decide ((⟨#[a]⟩:Str)=⟨#[b]⟩)))=_
 congr 2
 by_cases h:a=b
 ·subst h;simp
 ·have:¬((⟨#[a]⟩:Str)=⟨#[b]⟩):=fun z=>by
   injection z with z
   exact h (by simpa using z)
  rw[decide_eq_false h,decide_eq_false this]
def vo(a b:Nat):Nat:=max a b - min a b
def xE(w:Nat)(a b:Cell):Bool:=if w=4 then decide (vo a.1 b.1+vo a.2 b.2=1) else decide (max (vo a.1 b.1) (vo a.2 b.2)=1)
theorem uu(w:Nat)(a b:Cell):xE w a b=xE w b a:=by
 have e:∀x y:Nat,vo x y=vo y x:=fun x y=>by unfold vo;omega
 unfold xE
 rw[e a.1,e a.2]
theorem h7{put:D→aT→Option aT}{body:DS}{d:D}{ds:List D}{ρ ρ1 ρ2:aT}(h1:put d ρ=some ρ1)(h2:body ρ1=M.ret (.nx ρ2)):forL put body (d::ds) ρ=forL put body ds ρ2:=by
 show (match put d ρ with | none=>M.stuck | some ρ1=>body ρ1>>=fun o=>match o with | .nx ρ2=>forL put body ds ρ2 | .rt v=>M.ret (.rt v))=_
 rw[h1]
 show (body ρ1>>=fun o=>match o with | .nx ρ2=>forL put body ds ρ2 | .rt v=>M.ret (.rt v))=_
 rw[h2]
 rfl
section
variable{α σ:Type}{put:D→aT→Option aT}{body:DS}
theorem h9(enc:α→D)(mk:σ→aT)(step:σ→α→σ)(I:σ→Prop):∀(xs:List α) (s:σ),I s→(∀s,I s→∀x∈xs,I (step s x)∧∃ρ1,put (enc x) (mk s)=some ρ1∧body ρ1=M.ret (.nx (mk (step s x))))→
 I (xs.foldl step s)∧forL put body (xs.map enc) (mk s)=M.ret (.nx (mk (xs.foldl step s)))
 |[],s,h,_=>⟨h,rfl⟩
 |x::xs,s,h,st=>by
  obtain⟨h2,ρ1,e1,e2⟩:=st s h x (List.mem_cons_self ..)
  obtain⟨h3,e3⟩:=h9 enc mk step I xs (step s x) h2 fun s hs y hy=>st s hs y (List.mem_cons_of_mem _ hy)
  exact⟨h3,(h7 e1 e2).trans e3⟩
theorem ib(enc:α→D)(ρ:aT):∀(xs:List α),(∀x∈xs,∃ρ1,put (enc x) ρ=some ρ1∧body ρ1=M.ret (.nx ρ))→forL put body (xs.map enc) ρ=M.ret (.nx ρ)
 |[],_=>rfl
 |x::xs,st=>by
  obtain⟨ρ1,e1,e2⟩:=st x (List.mem_cons_self ..)
  exact(h7 e1 e2).trans (ib enc ρ xs fun y hy=>st y (List.mem_cons_of_mem _ hy))
theorem jG(enc:α→D)(mk:List D→aT)(g:α→List D){B:Nat}:∀(xs:List α) (acc:List D),(acc++xs.flatMap g).length≤B→(∀x∈xs,∀acc,(acc++g x).length≤B→∃ρ1,put (enc x) (mk acc)=some ρ1∧body ρ1=M.ret (.nx (mk (acc++g x))))→
 forL put body (xs.map enc) (mk acc)=M.ret (.nx (mk (acc++xs.flatMap g)))
 |[],acc,_,_=>by simp;rfl
 |x::xs,acc,hB,st=>by
  have Dc:((acc++g x)++xs.flatMap g).length≤B:=by simpa[List.flatMap_cons,List.append_assoc] using hB
  obtain⟨ρ1,e1,e2⟩:=st x (List.mem_cons_self ..) acc (Nat.le_trans (by simp only[List.length_append];omega) Dc)
  have e3:=jG enc mk g xs (acc++g x) Dc fun y hy=>st y (List.mem_cons_of_mem _ hy)
  rw[List.map_cons,h7 e1 e2,e3,List.flatMap_cons,List.append_assoc]
end
theorem l9{put:D→aT→Option aT}{δi:DA}{b:DS}{ρ:aT}{ds:List D}{m:M Out}(h:δi ρ=M.ret ds)(h2:forL put b ds ρ=m):iy put δi b ρ=m:=by
 unfold iy
 rw[h]
 exact h2
theorem gz{τ:DS}{ρ:aT}{o:Out}(h:τ ρ=M.ret o):(fun ρ=>noex (τ ρ)) ρ=M.ret o:=by
 show noex (τ ρ)=_
 rw[h]
 rfl
theorem u5(lo n:Nat):eA (lo:Int) n=(List.range' lo n).map fun(k:Nat)=>D.int (k:Int):=by
 unfold eA
 rw[List.range_eq_range']
 have:∀(n a:Nat),(List.range' a n).map (fun (i:Nat)=>D.int ((lo:Int)+(i:Int)))=(List.range' (lo+a) n).map fun(k:Nat)=>D.int (k:Int):=by
  intro n
  induction n with
  |zero=>intro a;rfl
  |succ n ih=>
   intro a
   rw[List.range'_succ,List.range'_succ,List.map_cons,List.map_cons,ih (a+1)]
   rfl
 exact this n 0
theorem AM{δ:DE}{ρ:aT}{n:Nat}(h:δ ρ=M.ret (.int (n:Int)))(hn:n≤4096):(aC δ aN ρ>>=gP)=M.ret ((List.range n).map fun(k:Nat)=>D.int (k:Int)):=by
 rw[aK h rfl,ah,ix hn,show eA 0 n=eA ((0:Nat):Int) n from rfl,u5,List.range_eq_range']
def dw(W r:Nat):List Cell:=(List.range W).map fun k=>(r,k)
def a_(R W:Nat):List Cell:=(List.range R).flatMap (dw W)
theorem fX{R W:Nat}{c:Cell}:c∈a_ R W↔On R W c:=by
 unfold a_ dw On
 simp only[List.mem_flatMap,List.mem_range,List.mem_map]
 constructor
 ·rintro⟨r,hr,k,hk,rfl⟩;exact⟨hr,hk⟩
 ·rintro⟨h1,h2⟩;exact⟨c.1,h1,c.2,h2,rfl⟩
theorem jP(R W:Nat):(a_ R W).length=R*W:=by
 unfold a_
 have:∀l:List Nat,(l.flatMap (dw W)).length=l.length*W:=by
  intro l
  induction l with
  |nil=>simp
  |cons a l ih=>rw[List.flatMap_cons,List.length_append,ih,List.length_cons,Nat.succ_mul];simp[dw];omega
 rw[this,List.length_range]
theorem g9{bd:List Str}{W:Nat}(hg:Brd bd W)(r:Nat):bA [brd bd, .int (r:Int)]=M.ret (.lst ((dw W r).map cD)):=by
 have:=hg.w8
 refine aZ (aA (bz (AM (n:=W) (hg.len0 rfl) (by omega)) ?_ (by simp[dw,c5];omega)))
 rw[show (dw W r).map cD=((List.range W).map fun(k:Nat)=>D.int (k:Int)).map (fun e=> .tup [.int (r:Int),e]) by simp[dw,List.map_map];intro a _;rfl]
 exact dO (g:=fun e=> .tup [.int (r:Int),e]) _ fun e _=>rfl
theorem fG{bd:List Str}{W:Nat}(hg:Brd bd W):bP [brd bd]=M.ret (.lst ((a_ bd.length W).map cD)):=by
 have h8:=hg.r8
 have w8:=hg.w8
 have hm:bd.length*W≤64:=Nat.mul_le_mul h8 w8
 have Dj:(List.range bd.length).flatMap (fun r=>(dw W r).map cD)=(a_ bd.length W).map cD:=by
  unfold a_;rw[List.map_flatMap]
 have e:=jG (put:=putN 2) (body:=f6 [2] (u7 1 (ak 2 bA (aC (dV 0) (aC (dV 2) aN))))) (fun (k:Nat)=>D.int (k:Int)) (fun acc=>[fz (brd bd),some (.ow (.lst acc)),none]) (fun r=>(dw W r).map cD) (B:=64) (List.range bd.length) []
  (by rw[List.nil_append,Dj,List.length_map,jP];exact hm) fun r hr acc hB=>by
   refine⟨[fz (brd bd),some (.ow (.lst acc)),fz (.int (r:Int))],rfl,?_⟩
   refine(dz (ρ':=[fz (brd bd),some (.ow (.lst (acc++(dw W r).map cD))),fz (.int (r:Int))]) ?_).trans rfl
   show (bA [brd bd, .int (r:Int)]>>=fun d=>lstM d>>=fun es=>if acc.length+es.length≤lim then M.ret (Out.nx (List.set [fz (brd bd),some (.ow (.lst acc)),fz (.int (r:Int))] 1 (some (.ow (.lst (acc++es)))))) else M.stuck)=_
   rw[g9 hg,ah]
   show (if acc.length+((dw W r).map cD).length≤lim then M.ret (Out.nx [fz (brd bd),some (.ow (.lst (acc++(dw W r).map cD))),fz (.int (r:Int))]) else M.stuck)=_
   rw[if_pos (by rw[List.length_append] at hB;rw[c5];omega)]
 rw[List.nil_append,Dj] at e
 refine aZ (ar (ρ':=[fz (brd bd),some (.ow (.lst [])),none]) rfl (ar (ρ':=[fz (brd bd),some (.ow (.lst ((a_ bd.length W).map cD))),none]) (gz (l9 (AM (n:=bd.length) (yD rfl) (by omega)) e)) ?_))
 rfl
def ug(R W w:Nat)(c:Cell):List Cell:=
 (List.range' (c.1 - 1) (min (c.1+2) R - (c.1 - 1))).flatMap fun r=>((List.range' (c.2 - 1) (min (c.2+2) W - (c.2 - 1))).map fun k=>(r,k)).filter (xE w c)
theorem se{R W w:Nat}(hw:rE w){c x:Cell}:x∈ug R W w c↔On R W x∧xE w c x=true:=by
 unfold ug On
 simp only[List.mem_flatMap,List.mem_filter,List.mem_map,List.mem_range'_1]
 constructor
 ·rintro⟨r,⟨h1,h2⟩,⟨k,⟨h3,h4⟩,rfl⟩,h5⟩
  refine⟨⟨?_,?_⟩,h5⟩
  ·show r<R;omega
  ·show k<W;omega
 ·rintro⟨⟨h1,h2⟩,h5⟩
  have h6:vo c.1 x.1≤1∧vo c.2 x.2≤1:=by
   unfold xE at h5
   rcases hw with rfl | rfl
   ·rw[if_pos rfl] at h5;have:=of_decide_eq_true h5;omega
   ·rw[if_neg (by decide)] at h5;have:=of_decide_eq_true h5;omega
  unfold vo at h6
  exact⟨x.1,⟨by omega,by omega⟩,⟨x.2,⟨by omega,by omega⟩,rfl⟩,h5⟩
abbrev nc(b c w:D)(acc:List D)(x4 x5:Option Sl):aT:=[fz b,fz c,fz w,some (.ow (.lst acc)),x4,x5]
def dq(bd:List Str)(W w:Nat)(c:Cell):List Cell:=(ug bd.length W w c).filter fun x=>decide (lt bd x=lt bd c)
theorem ig{bd:List Str}{W w:Nat}(hw:rE w){c x:Cell}:x∈dq bd W w c↔On bd.length W x∧xE w c x=true∧lt bd x=lt bd c:=by
 unfold dq
 rw[List.mem_filter,se hw,decide_eq_true_eq,and_assoc]
theorem lu{α:Type}{f:D→M (Option D)}(enc:α→D)(p:α→Bool):∀(xs:List α),(∀x∈xs,f (enc x)=M.ret (if p x then some (enc x) else none))→bL f (xs.map enc)=M.ret ((xs.filter p).map enc)
 |[],_=>rfl
 |x::xs,h=>by
  rw[List.map_cons,bM,h x (List.mem_cons_self ..),ah,lu enc p xs fun y hy=>h y (List.mem_cons_of_mem _ hy),List.filter_cons]
  cases p x<;>rfl
end K1
namespace K1
section
variable{α:Type}[DecidableEq α]
structure Bk (α:Type) where
 ks:List α
 ps:List (Option α)
 fu:List α
variable(nb:α→List α)
def Rb(a:α):Nat→α→Prop
 |0,x=>x=a
 |k+1,x=>Rb a k x∨∃y,Rb a k y∧x∈nb y
variable{nb}{a:α}
theorem Rb.mono{i j:Nat}{x:α}(h:i≤j)(r:Rb nb a i x):Rb nb a j x:=by
 induction h with
 |refl=>exact r
 |step _ ih=>exact .inl ih
structure Grown (P:α→α→Prop) (s t:Bk α):Prop where
 ex:∃fs:List (α×α),t.ks=s.ks++fs.map (·.1)∧t.ps=s.ps++fs.map (fun p=>some p.2)∧t.fu=s.fu++fs.map (·.1)∧(∀p∈fs,P p.2 p.1)
 nd:s.ks.Nodup→t.ks.Nodup
theorem Grown.trans{P:α→α→Prop}{s t u:Bk α}(h1:Grown P s t)(h2:Grown P t u):Grown P s u:=by
 obtain⟨fs,a1,a2,a3,a4⟩:=h1.ex
 obtain⟨gs,b1,b2,b3,b4⟩:=h2.ex
 refine⟨⟨fs++gs,by rw[b1,a1];simp,by rw[b2,a2];simp,by rw[b3,a3];simp,fun p hp=>?_⟩,fun h=>h2.nd (h1.nd h)⟩
 rcases List.mem_append.mp hp with h | h
 ·exact a4 p h
 ·exact b4 p h
structure Rng (nb:α→List α) (a:α) (k:Nat) (ks:List α) (ps:List (Option α)) (ring:List α):Prop where
 len:ks.length=ps.length
 nd:ks.Nodup
 mem:∀x,x∈ks↔Rb nb a k x
 rg:∀x,x∈ring↔Rb nb a k x∧∀j,Rb nb a j x→k≤j
 par:∀x p,(x,some p)∈ks.zip ps→x∈nb p∧p∈ks∧∀j,Rb nb a j x→∃i,j=i+1∧Rb nb a i p
 non:∀x,(x,none)∈ks.zip ps→x=a
 sz:k≤ks.length∧(ring≠[]→k+1≤ks.length)
theorem um{l U:List α}(hn:l.Nodup)(h:∀x∈l,x∈U):l.length≤U.length:=by
 induction l generalizing U with
 |nil=>simp
 |cons a l ih=>
  rw[List.nodup_cons] at hn
  have hl:∀x∈l,x∈U.erase a:=fun x hx=>by
   have nP:x≠a:=fun z=>hn.1 (by rw[←z];exact hx)
   exact(List.mem_erase_of_ne nP).mpr (h x (List.mem_cons_of_mem _ hx))
  have h1:=ih hn.2 hl
  have h2:=List.length_erase_of_mem (h a (List.mem_cons_self ..))
  have h3:=List.length_pos_of_mem (h a (List.mem_cons_self ..))
  rw[List.length_cons]
  omega
end
end K1
namespace K1
open PySem L2 L3
def keyOf(c:Cell):List Key:=[.inl (c.1:Int), .inl (c.2:Int)]
def CB:Option Cell→D
 |none=> .non
 |some c=>cD c
abbrev zK(ks:List Cell)(ps:List (Option Cell)):C:= .dct (ks.map keyOf) (ps.map CB)
abbrev sb(b s w:D)(ks:List Cell)(ps:List (Option Cell))(x4 x5 x6 x7:Option Sl):aT:=[fz b,fz s,fz w,some (.ow (zK ks ps)),x4,x5,x6,x7]
structure Bok (R W:Nat) (s:Bk Cell):Prop where
 len:s.ks.length=s.ps.length
 nd:s.ks.Nodup
 on:∀x∈s.ks,On R W x
 fu:s.fu.length≤s.ks.length
def eC{α:Type}[DecidableEq α](n:Nat)(enc:α→D):Prop:=∀k x y,jF (n+k) (enc x) (enc y)=some (decide (x=y))
theorem mx(n:Nat)(i j:Int):jF n (.int i) (.int j)=some (i==j):=by cases n<;>rfl
theorem qQ(n:Nat)(i j:Str):jF n (.str i) (.str j)=some (i==j):=by cases n<;>rfl
theorem mz{α:Type}[DecidableEq α]{enc:α→D}{f:D→D→Option Bool}(h:∀x y,f (enc x) (enc y)=some (decide (x=y))):∀(xs ys:List α),my f (xs.map enc) (ys.map enc)=some (decide (xs=ys))
 |[],[]=>rfl
 |[],_::_=>by simp[my]
 |_::_,[]=>by simp[my]
 |x::xs,y::ys=>by
  rw[List.map_cons,List.map_cons]
  show (match f (enc x) (enc y),my f (xs.map enc) (ys.map enc) with | some b,some r=>some (b&&r) | _,_=>none)=_
  rw[h,mz h xs ys]
  show some (decide (x=y)&&decide (xs=ys))=_
  congr 1
  by_cases h1:x=y<;>by_cases h2:xs=ys<;>simp[h1,h2]
theorem tF:eC 1 cD:=fun k a b=>by
 rw[Nat.add_comm]
 show (match jF k (.int (a.1:Int)) (.int (b.1:Int)),my (jF k) [.int (a.2:Int)] [.int (b.2:Int)] with | some b,some r=>some (b&&r) | _,_=>none)=_
 rw[mx]
 show (match some ((a.1:Int)==(b.1:Int)),(match jF k (.int (a.2:Int)) (.int (b.2:Int)),my (jF k) [] [] with | some b,some r=>some (b&&r) | _,_=>none) with | some b,some r=>some (b&&r) | _,_=>none)=_
 rw[mx]
 show some (((a.1:Int)==(b.1:Int))&&(((a.2:Int)==(b.2:Int))&&true))=_
 rw[lQ,lQ,Bool.and_true]
 congr 1
 obtain⟨a1,a2⟩:=a
 obtain⟨b1,b2⟩:=b
 by_cases h1:a1=b1<;>by_cases h2:a2=b2<;>simp[h1,h2]
theorem jj{α:Type}[DecidableEq α]{enc:α→D}{n:Nat}(h:eC n enc):eC (n+1) (fun l:List α=> .lst (l.map enc)):=fun k x y=>by
 rw[show n+1+k=(n+k)+1 by omega]
 exact mz (h k) x y
theorem vE{α:Type}[DecidableEq α]{enc:α→D}{n:Nat}(h:eC n enc):eC (n+1) (fun l:List α=> .tup (l.map enc)):=fun k x y=>by
 rw[show n+1+k=(n+k)+1 by omega]
 exact mz (h k) x y
theorem qP:eC 0 D.str:=fun k x y=>by
 rw[qQ]
 congr 1
theorem vD:eC 0 D.int:=fun k x y=>by
 rw[mx]
 congr 1
theorem gi:eC 1 brd:=vE qP
theorem hZ{α:Type}[DecidableEq α]{enc:α→D}{n:Nat}(h:eC n enc)(hn:n≤6)(x y:α):jl (enc x) (enc y)=M.ret (.bl (decide (x=y))):=by
 have:=h (6 - n) x y
 rw[show n+(6 - n)=6 by omega] at this
 unfold jl
 rw[this]
theorem mw{α:Type}[DecidableEq α]{enc:α→D}{n:Nat}(h:eC n enc)(hn:n≤6)(x y:α):nN (enc x) (enc y)=M.ret (.bl (!decide (x=y))):=by
 have:=h (6 - n) x y
 rw[show n+(6 - n)=6 by omega] at this
 unfold nN
 rw[this]
abbrev cL(l:List Cell):D:= .lst (l.map cD)
theorem Al(a b:List Cell):nN (cL a) (cL b)=M.ret (.bl (!decide (a=b))):=mw (jj tF) (by decide) a b
theorem zU(a b:List Cell):jl (cL a) (cL b)=M.ret (.bl (decide (a=b))):=hZ (jj tF) (by decide) a b
def DW(a b:Cell):Bool:=if a.1=b.1 then decide (a.2<b.2) else decide (a.1<b.1)
def zG(l:List Cell):Prop:=l.Pairwise fun a b=>DW a b=true
def Cn(bd:List Str)(W w:Nat)(a b:Cell):Prop:=∃j,Rb (dq bd W w) a j b
theorem p7{bd:List Str}{W w:Nat}(hw:rE w){a b:Cell}(ha:On bd.length W a)(h:b∈dq bd W w a):a∈dq bd W w b:=by
 obtain⟨h1,h2,h3⟩:=(ig hw).mp h
 exact(ig hw).mpr ⟨ha,by rw[uu];exact h2,h3.symm⟩
theorem xJ{bd:List Str}{W w:Nat}(hw:rE w){a b:Cell}(ha:On bd.length W a):∀{j:Nat},Rb (dq bd W w) a j b→On bd.length W b
 |0,h=>by rw[show b=a from h];exact ha
 |j+1, .inl h=>xJ hw ha h
 |j+1, .inr ⟨y,_,hy⟩=>((ig hw).mp hy).1
theorem kc{bd:List Str}{W w:Nat}{a c b:Cell}(h:c∈dq bd W w a):∀{j:Nat},Rb (dq bd W w) c j b→Rb (dq bd W w) a (j+1) b
 |0,q=> .inr ⟨a,rfl,by rw[show b=c from q];exact h⟩
 |j+1, .inl q=> .inl (kc h q)
 |j+1, .inr ⟨y,q,hy⟩=> .inr ⟨y,kc h q,hy⟩
theorem m6{bd:List Str}{W w:Nat}(hw:rE w){a b:Cell}(ha:On bd.length W a):∀{j:Nat},Rb (dq bd W w) a j b→Rb (dq bd W w) b j a
 |0,h=>show a=b from(show b=a from h).symm
 |j+1, .inl h=> .inl (m6 hw ha h)
 |j+1, .inr ⟨y,q,hy⟩=>kc (p7 hw (xJ hw ha q) hy) (m6 hw ha q)
theorem ke{bd:List Str}{W w:Nat}{a b c:Cell}{i:Nat}(h:Rb (dq bd W w) a i b):∀{j:Nat},Rb (dq bd W w) b j c→Rb (dq bd W w) a (i+j) c
 |0,q=>by rw[show c=b from q];exact h
 |j+1, .inl q=> .inl (ke h q)
 |j+1, .inr ⟨y,q,hy⟩=> .inr ⟨y,ke h q,hy⟩
section
variable{bd:List Str}{W w:Nat}{a b c:Cell}
theorem Cn.symm(hw:rE w)(ha:On bd.length W a)(h:Cn bd W w a b):Cn bd W w b a:=let ⟨j,q⟩:=h;⟨j,m6 hw ha q⟩
theorem Cn.trans(h:Cn bd W w a b)(h2:Cn bd W w b c):Cn bd W w a c:=let ⟨i,q⟩:=h;let ⟨j,r⟩:=h2;⟨i+j,ke q r⟩
end
structure IsPatch (bd:List Str) (W w:Nat) (a:Cell) (P:List Cell):Prop where
 rise:zG P
 mem:∀x,x∈P↔Cn bd W w a x
def zJ(w:Nat):List Cell→Bool
 |a::b::r=>xE w a b&&zJ w (b::r)
 |_=>true
structure IsWay (bd:List Str) (W w:Nat) (a b:Cell) (p:List Cell):Prop where
 on:∀x∈p,On bd.length W x
 hd:p.head? =some a
 lst:p.getLast? =some b
 let':∀x∈p,lt bd x=lt bd a
 E6:zJ w p=true
theorem nU{α:Type}{l:List α}{x:α}:L2.atI (l++[x]) (-1)=some x:=by
 unfold L2.atI t5
 rw[if_neg (by decide)]
 have: -((l++[x]).length:Int)≤ -1:=by simp;omega
 rw[if_pos this]
 have e:((-1:Int)+((l++[x]).length:Int)).toNat=l.length:=by simp;omega
 show (l++[x])[((-1:Int)+((l++[x]).length:Int)).toNat]? =some x
 rw[e]
 simp
theorem Aj{l:List Cell}{x:Cell}:fU (cL (l++[x])) (.int (-1))=M.ret (cD x):=by
 show (match L2.atI ((l++[x]).map cD) (-1) with | some d=>M.ret d | none=>M.stuck)=_
 rw[List.map_append,show [x].map cD=[cD x] from rfl,nU]
theorem yt{l:List Cell}{i:Nat}{x:Cell}(h:l[i]? =some x):fU (cL l) (.int (i:Int))=M.ret (cD x):=by
 show (match L2.atI (l.map cD) (i:Int) with | some d=>M.ret d | none=>M.stuck)=_
 rw[dN (x:=cD x) (by rw[List.getElem?_map,h];rfl)]
structure Trail (nb:Cell→List Cell) (b:Cell) (p:List Cell) (x:Cell):Prop where
 hd:p.head? =some x
 lst:p.getLast? =some b
 ch:∀l r u v,p=l++u::v::r→u∈nb v
theorem fS{α:Type}{f:D→M (Option D)}(enc:α→D)(g:α→D):∀(xs:List α),(∀x∈xs,f (enc x)=M.ret (some (g x)))→bL f (xs.map enc)=M.ret (xs.map g)
 |[],_=>rfl
 |x::xs,h=>by
  rw[List.map_cons,bM,h x (List.mem_cons_self ..),ah,fS enc g xs fun y hy=>h y (List.mem_cons_of_mem _ hy)]
  rfl
section
variable{bd:List Str}{W w:Nat}{a b c:Cell}{p q:List Cell}
end
theorem q9(a b:Bool):nN (.bl a) (.bl b)=M.ret (.bl (!(a==b))):=rfl
theorem lq{bd:List Str}{W:Nat}(hg:Brd bd W):b7 [brd bd]=M.ret (cL (a_ bd.length W)):=
 aZ (ar (b5 ((ai (ds:=[brd bd]) rfl rfl).trans hg.nb)) (aA ((ai (ds:=[brd bd]) rfl rfl).trans (fG hg))))
end K1
namespace K1
open PySem L2 L3 HT
def dE(l:List Nat):Str:=⟨l.toArray⟩
theorem fY(x:Str):dE x.cps.toList=x:=en (by simp[dE])
theorem aV(l:List Nat):(dE l).cps.toList=l:=by simp[dE]
theorem gq(l:List Nat):(dE l).length=l.length:=by simp[dE,Str.length]
theorem fP(x y:Str):(x++y).cps.toList=x.cps.toList++y.cps.toList:=by
 show (x.cps++y.cps).toList=_
 simp
theorem zO(ds:List D)(d:D):cutD (ds++[d]) none (some (-1))=ds:=by
 unfold cutD
 have e:sIx (ds++[d]).length (ds++[d]).length (some (-1))=ds.length:=by
  show (if (-1:Int)<0 then((-1:Int)+((ds++[d]).length:Int)).toNat else min (-1:Int).toNat (ds++[d]).length)=_
  rw[if_pos (by decide),List.length_append]
  simp
  omega
 rw[e,sIx_none]
 simp
theorem vQ(ds:List D)(d:D):fU (.lst (ds++[d])) (.int (-1))=M.ret d:=by
 show (match L2.atI (ds++[d]) (-1) with | some d=>M.ret d | none=>M.stuck)=_
 have e:L2.atI (ds++[d]) (-1)=some d:=by
  unfold L2.atI t5
  rw[if_neg (by decide),if_pos (by simp;omega)]
  show (ds++[d])[((-1:Int)+((ds++[d]).length:Int)).toNat]? =_
  have:((-1:Int)+((ds++[d]).length:Int)).toNat=ds.length:=by simp;omega
  rw[this]
  simp
 rw[e]
def mapR(g:Nat→Nat)(r:Str):Str:=dE (r.cps.toList.map g)
theorem kn(x:Str):signs x=x.cps.toList.map sg:=rfl
theorem rB:∀l:List Nat,gc (l.map sg)=some (l.map fun c=>(⟨#[c]⟩:Str))
 |[]=>rfl
 |c::r=>by
  show (gc (r.map sg)).map _=_
  rw[rB r]
  rfl
theorem qN:∀l:List Nat,bX (l.map fun c=>(⟨#[c]⟩:Str))=dE l
 |[]=>rfl
 |c::r=>by
  refine en ?_
  show ((⟨#[c]⟩:Str)++bX (r.map fun c=>(⟨#[c]⟩:Str))).cps.toList=_
  rw[fP,qN r,aV,aV]
  rfl
theorem ve:∀l:List Nat,((l.map fun c=>(⟨#[c]⟩:Str)).map (·.length)).sum=l.length
 |[]=>rfl
 |c::r=>by
  show 1+((r.map fun c=>(⟨#[c]⟩:Str)).map (·.length)).sum=_
  rw[ve r,List.length_cons]
  omega
theorem vR{l:List Nat}(h:l.length≤4096):joinM (.str "") [.lst (l.map sg)]=M.ret (.str (dE l)):=by
 show (match gc (l.map sg) with | some (xs:List Str)=>if ("":Str).length=0∧(xs.map fun x:Str=>x.length).sum≤lim then M.ret (D.str (bX xs)) else M.stuck | none=>M.stuck)=_
 rw[rB]
 show (if ("":Str).length=0∧((l.map fun c=>(⟨#[c]⟩:Str)).map fun x:Str=>x.length).sum≤lim then M.ret (D.str (bX (l.map fun c=>(⟨#[c]⟩:Str)))) else M.stuck)=_
 rw[if_pos ⟨rfl,by have:=ve l;rw[c5];exact Nat.le_trans (Nat.le_of_eq this) h⟩,qN]
theorem t6{i:Nat}{δ:DE}{ρ:aT}{r:Str}{g:Nat→Nat}(h0:ρ[i]? =some (fz (.str r)))(hl:r.length≤4096)(hd:∀c∈r.cps.toList,δ (fz (sg c)::ρ)=M.ret (sg (g c))):
 dM jL joinM (dC (.str "")) (aC (aW 0 (fun ρ=>(dV i) ρ>>=gS) bc δ) aN) ρ=M.ret (.str (mapR g r)):=by
 have Aa:r.cps.toList.length≤4096:=hl
 have cm:aW 0 (fun ρ=>(dV i) ρ>>=gS) bc δ ρ=M.ret (.lst ((r.cps.toList.map g).map sg)):=by
  refine bz (ds:=r.cps.toList.map sg) ?_ ?_ (by rw[List.length_map,List.length_map,c5];exact Aa)
  ·show (dV i ρ>>=gS)=_
   rw[cg h0]
   rfl
  ·have:∀(l:List Nat),(∀c∈l,δ (fz (sg c)::ρ)=M.ret (sg (g c)))→bL (dg 0 bc δ ρ) (l.map sg)=M.ret ((l.map g).map sg):=by
    intro l
    induction l with
    |nil=>exact fun _=>rfl
    |cons c l ih=>
     intro h
     rw[List.map_cons,bM,hJ,h c (List.mem_cons_self ..),ih fun x hx=>h x (List.mem_cons_of_mem _ hx)]
     rfl
   exact this _ hd
 show (if jL (.str "") then((aC _ aN) ρ>>=fun ds=>joinM (.str "") ds) else M.stuck)=_
 rw[if_pos (show jL (.str "")=true from rfl),aK cm (xs:=[]) rfl,ah]
 exact vR (by rw[List.length_map];exact Aa)
theorem tI{α β:Type}(f:α→β):∀l:List α,(l.flatMap fun r=>[f r])=l.map f
 |[]=>rfl
 |r::l=>by rw[List.flatMap_cons,tI f l];rfl
theorem vH{d:D}{g:Nat→Nat}{i:Nat}{ρ:aT}{c:Nat}(hd:jJ d=true)(hg:getM d (sg c) (sg c)=M.ret (sg (g c)))(h0:ρ[0]? =some (fz (sg c)))(h1:ρ[i]? =some (fz d)):lx (dV i) (dV 0) (dV 0) ρ=M.ret (sg (g c)):=by
 show (dV i ρ>>=fun d=>if jJ d then dV 0 ρ>>=fun k=>dV 0 ρ>>=fun v=>getM d k v else M.stuck)=_
 rw[cg h1,ah,if_pos hd,cg h0,ah,ah,hg]
theorem fj{bd:List Str}{W:Nat}(hg:Brd bd W){d:D}{g:Nat→Nat}(hd:jJ d=true)(BZ:∀r∈bd,∀c∈r.cps.toList,getM d (sg c) (sg c)=M.ret (sg (g c))):bT [brd bd,d]=M.ret (brd (bd.map (mapR g))):=by
 have h8:=hg.r8
 have w8:=hg.w8
 have lp:=jG (put:=putN 3) (body:=f6 [3] (u6 2 (dM jL joinM (dC (.str "")) (aC (aW 0 (fun ρ=>(dV 3) ρ>>=gS) bc (lx (dV 2) (dV 0) (dV 0))) aN)))) D.str (fun acc=>[fz (brd bd),fz d,some (.ow (.lst acc)),none]) (fun r=>[.str (mapR g r)]) (B:=4000) bd [] (by
  rw[List.nil_append,tI,List.length_map]
  omega) fun r hr acc ha=>by
  refine⟨[fz (brd bd),fz d,some (.ow (.lst acc)),fz (.str r)],rfl,(dz (ρ':=[fz (brd bd),fz d,some (.ow (.lst (acc++[.str (mapR g r)]))),fz (.str r)]) ?_).trans rfl⟩
  have e:=t6 (i:=3) (δ:=lx (dV 2) (dV 0) (dV 0)) (ρ:=[fz (brd bd),fz d,some (.ow (.lst acc)),fz (.str r)]) (r:=r) (g:=g) rfl (by rw[(hg.rows r hr).len];omega) fun c hc=>vH hd (BZ r hr c hc) rfl rfl
  show (dM jL joinM (dC (.str "")) (aC (aW 0 (fun ρ=>(dV 3) ρ>>=gS) bc (lx (dV 2) (dV 0) (dV 0))) aN) _>>=fun d=>if acc.length<lim then M.ret (Out.nx _) else M.stuck)=_
  rw[e,ah,if_pos (by rw[c5];rw[List.length_append] at ha;simp at ha;omega)]
  rfl
 refine aZ (ar (ρ':=[fz (brd bd),fz d,some (.ow (.lst [])),none]) rfl (ar (gz (l9 (EO (i:=0) rfl) lp)) ?_))
 refine(aA (d:=brd (bd.map (mapR g))) ?_)
 refine(cf (xs:=[.lst (bd.flatMap fun r=>[D.str (mapR g r)])]) rfl).trans ?_
 show M.ret (D.tup (bd.flatMap fun r=>[D.str (mapR g r)]))=M.ret (D.tup ((bd.map (mapR g)).map D.str))
 rw[tI,List.map_map]
 rfl
theorem qU(c:Nat):kK ⟨#[c]⟩=decide (c∈[97,98,99,100,101,102]):=StrLaws.found_one "abcdef" c
theorem tW(l:List Nat)(c:Nat)(neg:Bool):eJ neg (sg c) (.str (dE l))=M.ret (.bl (if neg then !decide (c∈l) else decide (c∈l))):=by
 have:=StrLaws.found_one (dE l) c
 rw[aV] at this
 show M.ret (D.bl (if neg then !(!(Builtin.Str.occurrences (dE l) ⟨#[c]⟩ 0 (dE l).length 1).isEmpty) else !(Builtin.Str.occurrences (dE l) ⟨#[c]⟩ 0 (dE l).length 1).isEmpty))=_
 rw[this]
theorem xP{i:Nat}(h:i<6):fC (.str "abcdef") (.int (i:Int))=M.ret (sg (97+i)):=by
 match i,h with
 |0,_=>rfl
 |1,_=>rfl
 |2,_=>rfl
 |3,_=>rfl
 |4,_=>rfl
 |5,_=>rfl
def df(ms:List Nat)(c:Nat):List Nat:=if c∈ms then ms else ms++[c]
theorem gg{ms:List Nat}{c x:Nat}:x∈df ms c↔x∈ms∨x=c:=by
 unfold df
 split
 ·rename_i h
  exact⟨.inl,fun q=>q.elim id fun e=>e▸h⟩
 ·simp
def LetOk(ms:List Nat):Prop:=ms.Nodup∧∀c∈ms,c∈[97,98,99,100,101,102]
theorem LetOk.len{ms:List Nat}(h:LetOk ms):ms.length≤6:=um h.1 h.2
theorem LetOk.add{ms:List Nat}(h:LetOk ms){c:Nat}(hc:c∈[97,98,99,100,101,102]):LetOk (df ms c):=by
 unfold df
 split
 ·exact h
 ·rename_i hn
  refine⟨List.nodup_append.mpr ⟨h.1,by simp,fun a ha b hb=>?_⟩,fun x hx=>?_⟩
  ·have:b=c:=by simpa using hb
   subst this
   exact fun z=>hn (z▸ha)
  ·rcases List.mem_append.mp hx with q | q
   ·exact h.2 x q
   ·have:x=c:=by simpa using q
    rw[this]
    exact hc
theorem rp{W:Nat}{r:Str}(h:Row W r){c:Nat}(hc:c∈r.cps.toList):c∈[97,98,99,100,101,102]:=by
 have:=h.let' c hc
 rw[qU] at this
 exact of_decide_eq_true this
def kS(c:Nat):Key:= .inr ⟨#[c]⟩
theorem jM{a b:Nat}(h:kS a=kS b):a=b:=by
 have h:(⟨#[a]⟩:Str)=⟨#[b]⟩:=Sum.inr.inj h
 have h:=congrArg (fun s:Str=>s.cps.toList) h
 simpa using h
def de(n:Nat):List D:=(List.range n).map fun i=>sg (97+i)
def sj(ms:List Nat):C:= .dci (ms.map kS) (de ms.length)
def xD(ms:List Nat):D:= .dci (ms.map kS) (de ms.length)
def gN(ms:List Nat)(c:Nat):Nat:=if c∈ms then 97+ms.idxOf c else c
theorem nI{c:Nat}:∀(ms:List Nat) (f:Nat→D),gf (ms.map kS) ((List.range ms.length).map f) (kS c)=if c∈ms then some (f (ms.idxOf c)) else none
 |[],f=>by simp[gf]
 |m::ms,f=>by
  rw[List.length_cons,List.range_succ_eq_map,List.map_cons,List.map_cons,List.map_map]
  show (if kS m=kS c then some (f 0) else gf (ms.map kS) ((List.range ms.length).map (f∘Nat.succ)) (kS c))=_
  by_cases h:m=c
  ·subst h
   rw[if_pos rfl,if_pos (List.mem_cons_self ..),List.idxOf_cons_self]
  ·rw[if_neg (fun z=>h (jM z)),nI ms (f∘Nat.succ)]
   by_cases hc:c∈ms
   ·rw[if_pos hc,if_pos (List.mem_cons_of_mem _ hc),List.idxOf_cons,beq_false_of_ne h]
    rfl
   ·rw[if_neg hc,if_neg (fun z=>by rcases List.mem_cons.mp z with q | q;exact h q.symm;exact hc q)]
theorem yd(ms:List Nat)(c:Nat):getM (xD ms) (sg c) (sg c)=M.ret (sg (gN ms c)):=by
 show (match (some (gf (ms.map kS) (de ms.length) (kS c)):Option (Option D)) with | some (some x)=>M.ret x | some none=>M.ret (sg c) | none=>M.stuck)=_
 unfold de gN
 rw[nI]
 by_cases h:c∈ms
 ·rw[if_pos h,if_pos h]
 ·rw[if_neg h,if_neg h]
theorem ye(ms:List Nat)(c:Nat)(neg:Bool):ot neg (sg c) (xD ms)=M.ret (.bl (if neg then !decide (c∈ms) else decide (c∈ms))):=by
 show (match (some (gf (ms.map kS) (de ms.length) (kS c)):Option (Option D)) with | some o=>M.ret (D.bl (if neg then !o.isSome else o.isSome)) | none=>M.stuck)=_
 unfold de
 rw[nI]
 by_cases h:c∈ms
 ·rw[if_pos h,decide_eq_true h]
  rfl
 ·rw[if_neg h,decide_eq_false h]
  rfl
theorem za{ms:List Nat}{c:Nat}(hc:c∉ms)(hl:ms.length<6):kR (sj ms) (sg c) (sg (97+ms.length))=some (sj (ms++[c])):=by
 show (if (de ms.length).length<lim then some (C.dci (j_ (ms.map kS) (de ms.length) (kS c)) (gO (ms.map kS) (de ms.length) (kS c) (sg (97+ms.length)))) else none)=_
 have hv:gf (ms.map kS) (de ms.length) (kS c)=none:=by
  unfold de
  rw[nI,if_neg hc]
 rw[if_pos (by unfold de;rw[List.length_map,List.length_range,c5];omega)]
 unfold j_ gO
 rw[hv]
 unfold sj
 rw[List.length_append,List.map_append]
 show some (C.dci (ms.map kS++[kS c]) (de ms.length++[sg (97+ms.length)]))=some (C.dci (ms.map kS++[kS c]) (de (ms.length+1)))
 congr 2
 unfold de
 rw[List.range_succ,List.map_append]
 rfl
def aD(bd:List Str):List Nat:=(bd.map (·.cps.toList)).flatten
def bI(bd:List Str):List Nat:=(aD bd).foldl df []
theorem mF{bd:List Str}{W:Nat}(hg:Brd bd W){i:Nat}{ρ:aT}(h0:ρ[i]? =some (fz (brd bd))):dM jL joinM (dC (.str "")) (aC (dV i) aN) ρ=M.ret (.str (dE (aD bd))):=by
 have h8:=hg.r8
 have w8:=hg.w8
 show (if jL (.str "") then((aC (dV i) aN) ρ>>=fun ds=>joinM (.str "") ds) else M.stuck)=_
 rw[if_pos (show jL (.str "")=true from rfl),aK (cg h0) (xs:=[]) rfl,ah]
 show (match gc (bd.map D.str) with | some (xs:List Str)=>if ("":Str).length=0∧(xs.map fun x:Str=>x.length).sum≤lim then M.ret (D.str (bX xs)) else M.stuck | none=>M.stuck)=_
 have e1:∀xs:List Str,gc (xs.map D.str)=some xs:=by
  intro xs
  induction xs with
  |nil=>rfl
  |cons x r ih=>show (gc (r.map D.str)).map _=_;rw[ih];rfl
 rw[e1]
 have e2:∀xs:List Str,(bX xs).cps.toList=(xs.map (·.cps.toList)).flatten:=by
  intro xs
  induction xs with
  |nil=>rfl
  |cons x r ih=>show (x++bX r).cps.toList=_;rw[fP,ih];rfl
 have e3:∀xs:List Str,(∀x∈xs,x.length≤8)→(xs.map fun x:Str=>x.length).sum≤xs.length*8:=by
  intro xs
  induction xs with
  |nil=>exact fun _=>Nat.zero_le _
  |cons x r ih=>
   intro h
   have:=ih fun y hy=>h y (List.mem_cons_of_mem _ hy)
   have:=h x (List.mem_cons_self ..)
   rw[List.map_cons,List.sum_cons,List.length_cons,Nat.add_mul]
   omega
 have e4:=e3 bd fun x hx=>by rw[(hg.rows x hx).len];exact w8
 show (if ("":Str).length=0∧(bd.map fun x:Str=>x.length).sum≤lim then M.ret (D.str (bX bd)) else M.stuck)=_
 rw[if_pos ⟨rfl,by rw[c5];omega⟩]
 congr 2
 refine en ?_
 rw[e2,aV]
 rfl
theorem bS{bd:List Str}{W:Nat}(hg:Brd bd W):aO [brd bd]=M.ret (brd (bd.map (mapR (gN (bI bd))))):=by
 have h8:=hg.r8
 have w8:=hg.w8
 have B8:∀c∈aD bd,c∈[97,98,99,100,101,102]:=fun c hc=>by
  obtain⟨l,hl,h⟩:=List.mem_flatten.mp hc
  obtain⟨r,hr,rfl⟩:=List.mem_map.mp hl
  exact rp (hg.rows r hr) h
 obtain⟨_,lp⟩:=h9 (put:=putN 2) (body:=f6 [2] (g7 (CW (eu (d2 (ot true) (dV 2) (dV 1)))) (rq 1 (dV 2) (A7 (d2 fC (dC (.str "abcdef")) (dA iG (aC (dV 1) aN))))) c9)) sg (fun ms=>[fz (brd bd),some (.ow (sj ms)),none]) df LetOk (aD bd) [] ⟨List.nodup_nil,fun c h=>by cases h⟩ fun ms hm c hc=>by
  have z6:=B8 c hc
  refine⟨hm.add z6,[fz (brd bd),some (.ow (sj ms)),fz (sg c)],rfl,?_⟩
  have Bp:CW (eu (d2 (ot true) (dV 2) (dV 1))) [fz (brd bd),some (.ow (sj ms)),fz (sg c)]=M.ret (!decide (c∈ms)):=by
   show noex (eu (d2 (ot true) (dV 2) (dV 1)) [fz (brd bd),fz (xD ms),fz (sg c)])=_
   rw[ku ((aL (x:=sg c) (y:=xD ms) rfl rfl).trans (ye ms c true))]
   rfl
  by_cases h:c∈ms
  ·rw[decide_eq_true h] at Bp
   refine(dz (cH Bp rfl)).trans ?_
   unfold df
   rw[if_pos h]
   rfl
  ·rw[decide_eq_false h] at Bp
   have B6:ms.length<6:=by
    have:=(hm.add z6).len
    unfold df at this
    rw[if_neg h,List.length_append] at this
    simp at this
    omega
   have ev:A7 (d2 fC (dC (.str "abcdef")) (dA iG (aC (dV 1) aN))) [fz (brd bd),some (.ow (sj ms)),fz (sg c)]=M.ret (sg (97+ms.length)):=by
    show (noex (d2 fC (dC (.str "abcdef")) (dA iG (aC (dV 1) aN)) [fz (brd bd),fz (xD ms),fz (sg c)])>>=lA)=_
    have:d2 fC (dC (.str "abcdef")) (dA iG (aC (dV 1) aN)) [fz (brd bd),fz (xD ms),fz (sg c)]=M.ret (sg (97+ms.length)):=by
     refine(aL (x:= .str "abcdef") (y:= .int (ms.length:Int)) rfl ?_).trans (xP B6)
     refine(cf (xs:=[xD ms]) rfl).trans ?_
     show M.ret (D.int ((ms.map kS).length:Int))=_
     rw[List.length_map]
    rw[this]
    rfl
   refine(dz (ρ':=[fz (brd bd),some (.ow (sj (ms++[c]))),fz (sg c)]) (e7 Bp ?_)).trans ?_
   ·show (A7 (d2 fC (dC (.str "abcdef")) (dA iG (aC (dV 1) aN))) _>>=fun v=>dV 2 _>>=fun k=>match kR (sj ms) k v with | some c'=>M.ret (Out.nx _) | none=>M.stuck)=_
    rw[ev,ah]
    show (match kR (sj ms) (sg c) (sg (97+ms.length)) with | some c'=>M.ret (Out.nx ([fz (brd bd),some (.ow (sj ms)),fz (sg c)].set 1 (some (.ow c')))) | none=>M.stuck)=_
    rw[za h B6]
    rfl
   ·unfold df
    rw[if_neg h]
    rfl
 refine aZ (ar (b5 ((ai (ds:=[brd bd]) rfl rfl).trans hg.nb)) (ar (ρ':=[fz (brd bd),some (.ow (sj [])),none]) rfl (ar (ρ':=[fz (brd bd),some (.ow (sj (bI bd))),none]) (gz (l9 (ds:=(aD bd).map sg) ?_ lp)) ?_)))
 ·show (dM jL joinM (dC (.str "")) (aC (dV 0) aN) _>>=gS)=_
  rw[mF hg (i:=0) rfl]
  show M.ret (signs (dE (aD bd)))=_
  rw[kn,aV]
 ·refine aA ((ai (ds:=[brd bd,xD (bI bd)]) rfl rfl).trans (fj hg rfl fun r hr c hc=>yd _ c))
theorem g_(x:Str)(c:Nat):∀(n a:Nat) (st:Array Nat×Nat),a+n≤x.length+1→st.snd≤a→st.fst.size≤a→
 (forIn (List.range' a n) st (StrLaws.occBody x ⟨#[c]⟩ x.length (x.length+1))).run.fst.size=st.fst.size+((List.range' a n).filter fun i=>decide (x.cps.toList[i]? =some c)).length
 |0,a,st,_,_,_=>rfl
 |n+1,a,st,h1,h2,h3=>by
  rw[List.range'_succ,List.forIn_cons,List.filter_cons]
  have key:=StrLaws.subAt_one x c a
  unfold StrLaws.occBody
  by_cases hc:x.cps.toList[a]? =some c
  ·have k:=key.mpr hc
   rw[if_pos ⟨⟨⟨by omega,h2⟩,k.1⟩,k.2⟩,if_pos (decide_eq_true hc)]
   have ih:=g_ x c n (a+1) (st.fst.push a,a+(⟨#[c]⟩:Str).length) (by omega) (Nat.le_refl _) (by simp;omega)
   refine Eq.trans ih ?_
   simp
   omega
  ·rw[if_neg (fun z=>hc (key.mp ⟨z.1.2,z.2⟩)),if_neg (by simpa using hc)]
   exact g_ x c n (a+1) (st.fst,st.snd) (by omega) (by show st.snd≤a+1;omega) (by show st.fst.size≤a+1;omega)
theorem mm(c:Nat):∀l:List Nat,((List.range (l.length+1)).filter fun i=>decide (l[i]? =some c)).length=l.count c
 |[]=>by simp[List.range_succ]
 |a::l=>by
  rw[List.length_cons,List.range_succ_eq_map,List.filter_cons,List.filter_map]
  have e:((fun i=>decide ((a::l)[i]? =some c))∘Nat.succ)=fun i=>decide (l[i]? =some c):=by
   funext i
   simp
  rw[e]
  by_cases h:a=c
  ·subst h
   simp only[List.getElem?_cons_zero,decide_true,if_true,List.length_cons,List.length_map,mm a l,List.count_cons_self]
  ·have h':¬(a==c)=true:=by simpa using h
   simp only[List.getElem?_cons_zero,Option.some.injEq,h,decide_false,Bool.false_eq_true,if_false,List.length_map,mm c l]
   rw[List.count_cons_of_ne h]
theorem vy(x:Str)(c:Nat):(Builtin.Str.occurrences x ⟨#[c]⟩ 0 x.length (x.length+1)).length=x.cps.toList.count c:=by
 have k:=g_ x c (x.length+1 - 0) 0 (#[],0) (by omega) (Nat.le_refl _) (Nat.le_refl _)
 rw[StrLaws.occ_eq,Array.length_toList,k,←mm c x.cps.toList]
 show 0+_=_
 rw[Nat.zero_add,Array.length_toList,List.range_eq_range']
 rfl
abbrev pM:List Nat:=[97,98,99,100,101,102]
def cV(s:List Nat):List Nat:=pM.filter fun c=>decide (c∈s)
def wj(s:List Nat)(c:Nat):D:= .tup [sg c, .int (s.count c:Int)]
theorem n0{α:Type}{f:D→M (Option D)}(enc:α→D)(p:α→Bool)(g:α→D):∀(xs:List α),(∀x∈xs,f (enc x)=M.ret (if p x then some (g x) else none))→bL f (xs.map enc)=M.ret ((xs.filter p).map g)
 |[],_=>rfl
 |x::xs,h=>by
  rw[List.map_cons,bM,h x (List.mem_cons_self ..),ah,n0 enc p g xs fun y hy=>h y (List.mem_cons_of_mem _ hy),List.filter_cons]
  cases p x<;>rfl
theorem eP{bd:List Str}{W:Nat}(hg:Brd bd W):aQ [brd bd]=M.ret (.lst ((cV (aD bd)).map (wj (aD bd)))):=by
 refine aZ (ar (ρ':=[fz (brd bd),none]) (b5 ((ai (ds:=[brd bd]) rfl rfl).trans hg.nb)) (ar (ρ':=[fz (brd bd),fz (.str (dE (aD bd)))]) ((bq (mF hg (i:=0) rfl)).trans rfl) (aA ?_)))
 refine bz (ds:=pM.map sg) rfl (n0 sg (fun c=>decide (c∈aD bd)) (wj (aD bd)) pM fun c _=>?_) ?_
 ·rw[tj]
  have e1:eu (d2 (eJ false) (dV 0) (dV 2)) [fz (sg c),fz (brd bd),fz (.str (dE (aD bd)))]=M.ret (decide (c∈aD bd)):=ku ((aL (x:=sg c) (y:= .str (dE (aD bd))) rfl rfl).trans (tW _ _ false))
  have e2:dA dS (aC (dV 0) (aC (dM jL nZ (dV 2) (aC (dV 0) aN)) aN)) [fz (sg c),fz (brd bd),fz (.str (dE (aD bd)))]=M.ret (wj (aD bd) c):=by
   have e3:dM jL nZ (dV 2) (aC (dV 0) aN) [fz (sg c),fz (brd bd),fz (.str (dE (aD bd)))]=M.ret (.int ((aD bd).count c:Int)):=by
    show M.ret (D.int ((tf (dE (aD bd)) ⟨#[c]⟩:Nat):Int))=_
    unfold tf
    rw[vy,aV]
   exact(cf (aK (x:=sg c) rfl (aK (xs:=[]) e3 rfl))).trans rfl
  rw[e1,e2]
  cases decide (c∈aD bd)<;>rfl
 ·rw[List.length_map,c5]
  exact Nat.le_trans (List.length_filter_le ..) (by decide)
theorem lD:∀(l ms:List Nat) (c:Nat),c∈l∨c∈ms→c∈l.foldl df ms
 |[],ms,c,h=>h.elim (fun z=>by cases z) id
 |a::l,ms,c,h=>by
  rw[List.foldl_cons]
  refine lD l _ c ?_
  rcases h with h | h
  ·rcases List.mem_cons.mp h with rfl | h
   ·exact .inr (gg.mpr (.inr rfl))
   ·exact .inl h
  ·exact .inr (gg.mpr (.inl h))
theorem oh:∀(l ms:List Nat),LetOk ms→(∀c∈l,c∈[97,98,99,100,101,102])→LetOk (l.foldl df ms)
 |[],ms,h,_=>h
 |a::l,ms,h,hl=>oh l _ (h.add (hl a (List.mem_cons_self ..))) fun c hc=>hl c (List.mem_cons_of_mem _ hc)
theorem ue{ms:List Nat}{c:Nat}(hm:LetOk ms){ρ:aT}{i j:Nat}(h1:ρ[i]? =some (fz (.str (dE ms))))(h4:ρ[j]? =some (fz (sg c))):
 d2 oo (dV i) (d2 lF (dV j) (dA p3 (aC (d2 (eJ true) (dV j) (dV i)) aN))) ρ=M.ret (.str (dE (df ms c))):=by
 have hl:=hm.len
 have e1:dA p3 (aC (d2 (eJ true) (dV j) (dV i)) aN) ρ=M.ret (.int ((if c∈ms then 0 else 1:Nat):Int)):=by
  refine(cf (xs:=[.bl (!decide (c∈ms))]) (aK ((aL (cg h4) (cg h1)).trans (tW ms c true)) rfl)).trans ?_
  show M.ret (D.int (if (!decide (c∈ms))=true then 1 else 0))=_
  by_cases h:c∈ms
  ·rw[decide_eq_true h,if_pos h];rfl
  ·rw[decide_eq_false h,if_neg h];rfl
 have e2:d2 lF (dV j) (dA p3 (aC (d2 (eJ true) (dV j) (dV i)) aN)) ρ=M.ret (.str (kh ⟨#[c]⟩ (if c∈ms then 0 else 1))):=by
  refine(aL (cg h4) e1).trans ?_
  by_cases h:c∈ms
  ·rw[if_pos h];rfl
  ·rw[if_neg h];rfl
 refine(aL (cg h1) e2).trans ?_
 have hz:(kh ⟨#[c]⟩ (if c∈ms then 0 else 1)).length≤1:=by
  rw[ki]
  have:(⟨#[c]⟩:Str).length=1:=rfl
  rw[this]
  split<;>simp
 refine(if_pos (by rw[gq,c5];omega)).trans ?_
 congr 2
 refine en ?_
 rw[fP,aV,aV,du]
 unfold df
 split<;>simp
def mn(bd:List Str)(lo hi:Option Int):List Str:=(bd.drop (sIx bd.length 0 lo)).take (sIx bd.length bd.length hi - sIx bd.length 0 lo)
theorem xW(bd:List Str)(lo hi:Option Int):cutD (bd.map D.str) lo hi=(mn bd lo hi).map D.str:=by
 unfold cutD mn
 rw[List.length_map,←List.map_drop,←List.map_take]
def eU(bd:List Str)(a b c d:Int):List Str:=(mn bd (some a) (some b)).map fun r=>Txt.slice r (some c) (some d)
theorem tm(bd:List Str)(lo hi:Option Int):(mn bd lo hi).length≤bd.length:=by
 unfold mn
 rw[List.length_take,List.length_drop]
 omega
theorem uC{bd:List Str}{W:Nat}(hg:Brd bd W){a b c d:Int}{δt δl:DO}{δc δd:DO}{i:Nat}{ρ:aT}(h0:ρ[i]? =some (fz (brd bd)))(ha:δt ρ=M.ret (some a))(hb:δl ρ=M.ret (some b))(hc:∀x,δc (x::ρ)=M.ret (some c))(hd:∀x,δd (x::ρ)=M.ret (some d)):
 dA pA (aC (aW 0 (fB (pU (dV i) δt δl)) bc (pU (dV 0) δc δd)) aN) ρ=M.ret (brd (eU bd a b c d)):=by
 have h8:=hg.r8
 have cm:aW 0 (fB (pU (dV i) δt δl)) bc (pU (dV 0) δc δd) ρ=M.ret (.lst ((eU bd a b c d).map D.str)):=by
  refine bz (ds:=(mn bd (some a) (some b)).map D.str) ?_ ?_ (by unfold eU;rw[List.length_map,List.length_map,c5];have:=tm bd (some a) (some b);omega)
  ·have e:pU (dV i) δt δl ρ=M.ret (.tup ((mn bd (some a) (some b)).map D.str)):=by
    unfold pU
    rw[cg h0,ah,ha,ah,hb,ah]
    show M.ret (D.tup (cutD (bd.map D.str) (some a) (some b)))=_
    rw[xW]
   unfold fB
   rw[e]
   rfl
  ·unfold eU
   rw[List.map_map]
   have:∀l:List Str,bL (dg 0 bc (pU (dV 0) δc δd) ρ) (l.map D.str)=M.ret (l.map (D.str∘fun r=>Txt.slice r (some c) (some d))):=by
    intro l
    induction l with
    |nil=>rfl
    |cons r l ih=>
     have e:pU (dV 0) δc δd (fz (.str r)::ρ)=M.ret (.str (Txt.slice r (some c) (some d))):=by
      show (M.ret (D.str r)>>=fun d=>δc (fz (.str r)::ρ)>>=fun l=>δd (fz (.str r)::ρ)>>=fun h=>DH d l h)=_
      rw[ah,hc,ah,hd]
      rfl
     rw[List.map_cons,bM,hJ,e,ih]
     rfl
   exact this _
 exact(cf (xs:=[.lst ((eU bd a b c d).map D.str)]) (aK cm rfl)).trans rfl
theorem ik{bd:List Str}{W:Nat}(hg:Brd bd W)(a b c d:Int):cx [brd bd, .int a, .int b, .int c, .int d]=M.ret (brd (eU bd a (c+1) b (d+1))):=
 aZ (aA (uC hg (i:=0) rfl rfl rfl (fun _=>rfl) (fun _=>rfl)))
def gr(bd pt:List Str)(V:Nat)(x:Cell):Bool:=decide (eU bd (x.1:Int) ((x.1:Int)+(pt.length:Int)) (x.2:Int) ((x.2:Int)+(V:Int))=pt)
theorem t9{bd pt:List Str}{W V:Nat}(hg:Brd bd W)(hp:Brd pt V)(x:Cell):c0 [brd bd,brd pt,cD x]=M.ret (.bl (gr bd pt V x)):=by
 refine aZ ?_
 refine ar (ρ':=[fz (brd bd),fz (brd pt),fz (cD x),fz (.int ((x.1:Int)+(pt.length:Int) - 1)),none]) ((bq (d:= .int ((x.1:Int)+(pt.length:Int) - 1)) ((aL (x:= .int ((x.1:Int)+(pt.length:Int))) (y:= .int 1) ((aL (x:= .int (x.1:Int)) rfl (yD (i:=1) rfl)).trans rfl) rfl).trans rfl)).trans rfl) ?_
 refine ar (ρ':=[fz (brd bd),fz (brd pt),fz (cD x),fz (.int ((x.1:Int)+(pt.length:Int) - 1)),fz (.int ((x.2:Int)+(V:Int) - 1))]) ((bq (d:= .int ((x.2:Int)+(V:Int) - 1)) ((aL (x:= .int ((x.2:Int)+(V:Int))) (y:= .int 1) ((aL (x:= .int (x.2:Int)) rfl (hp.len0 (i:=1) rfl)).trans rfl) rfl).trans rfl)).trans rfl) ?_
 refine aA ((aL (x:=brd (eU bd (x.1:Int) ((x.1:Int)+(pt.length:Int)) (x.2:Int) ((x.2:Int)+(V:Int)))) (y:=brd pt) ((ai (ds:=[brd bd, .int (x.1:Int), .int (x.2:Int), .int ((x.1:Int)+(pt.length:Int) - 1), .int ((x.2:Int)+(V:Int) - 1)]) rfl rfl).trans ((ik hg ..).trans ?_)) rfl).trans (hZ gi (by decide) _ _))
 rw[Int.sub_add_cancel,Int.sub_add_cancel]
theorem rQ{bd pt:List Str}{W V:Nat}(hg:Brd bd W)(hp:Brd pt V):bQ [brd bd,brd pt]=M.ret (cL ((a_ bd.length W).filter (gr bd pt V))):=by
 refine aZ (ar (b5 ((ai (ds:=[brd bd]) rfl rfl).trans hg.nb)) (ar (b5 ((ai (ds:=[brd pt]) rfl rfl).trans hp.nb)) (aA ?_)))
 have hl:((a_ bd.length W).filter (gr bd pt V)).length≤64:=Nat.le_trans (List.length_filter_le ..) (by rw[jP];exact Nat.mul_le_mul hg.r8 hg.w8)
 refine bz (ds:=(a_ bd.length W).map cD) ?_ (lu cD (gr bd pt V) _ fun x hx=>?_) (by rw[List.length_map,c5];omega)
 ·show (ak 1 bP (aC (dV 0) aN) _>>=lstM)=_
  exact congrArg (· >>=lstM) ((ai (ds:=[brd bd]) rfl rfl).trans (fG hg))
 ·rw[tj]
  have e:bO (ak 3 c0 (aC (dV 1) (aC (dV 2) (aC (dV 0) aN)))) [fz (cD x),fz (brd bd),fz (brd pt)]=M.ret (gr bd pt V x):=jB ((ai (ds:=[brd bd,brd pt,cD x]) rfl rfl).trans (t9 hg hp x))
  show (bO (ak 3 c0 (aC (dV 1) (aC (dV 2) (aC (dV 0) aN)))) [fz (cD x),fz (brd bd),fz (brd pt)]>>=fun b=>if b then(dV 0 [fz (cD x),fz (brd bd),fz (brd pt)]>>=fun y=>M.ret (some y)) else M.ret none)=_
  rw[e]
  cases gr bd pt V x<;>rfl
def nO(p q c:Nat):Nat:=if c=p then(if p=q then p else q) else if c=q then p else c
theorem vC(p q:Nat):∃d,jJ d=true∧(∀c,getM d (sg c) (sg c)=M.ret (sg (nO p q c)))∧∀{a b c e:DE}{ρ:aT},a ρ=M.ret (sg p)→b ρ=M.ret (sg q)→c ρ=M.ret (sg q)→e ρ=M.ret (sg p)→mq a b c e ρ=M.ret d:=by
 refine⟨(if kS p=kS q then C.dci [kS p] [sg p] else C.dci [kS p,kS q] [sg q,sg p]).d,?_,fun c=>?_,fun h1 h2 h3 h4=>?_⟩
 ·split<;>rfl
 ·by_cases Cc:p=q
  ·subst Cc
   rw[if_pos rfl]
   show (match (some (if kS p=kS c then some (sg p) else none):Option (Option D)) with | some (some x)=>M.ret x | some none=>M.ret (sg c) | none=>M.stuck)=_
   unfold nO
   by_cases h:c=p
   ·rw[if_pos (by rw[h]),if_pos h,if_pos rfl]
   ·rw[if_neg (fun z=>h (jM z).symm),if_neg h,if_neg h]
  ·rw[if_neg (fun z=>Cc (jM z))]
   show (match (some (if kS p=kS c then some (sg q) else if kS q=kS c then some (sg p) else none):Option (Option D)) with | some (some x)=>M.ret x | some none=>M.ret (sg c) | none=>M.stuck)=_
   unfold nO
   by_cases h:c=p
   ·rw[if_pos (by rw[h]),if_pos h,if_neg Cc]
   ·rw[if_neg (fun z=>h (jM z).symm),if_neg h]
    by_cases h':c=q
    ·rw[if_pos (by rw[h']),if_pos h']
    ·rw[if_neg (fun z=>h' (jM z).symm),if_neg h']
 ·unfold mq
  rw[h1,h2,h3,h4]
  rfl
theorem nY(ns:List Int)(hl:ns.length≤63){bd:List Str}{W:Nat}(hg:Brd bd W)(k:Nat):∃c,On bd.length W c∧bH [.scr ns, .int (k:Int),brd bd]=M.ret (cD c):=by
 obtain⟨v,hv,e⟩:=cZ ns hl k bd.length hg.r1
 obtain⟨u,hu,e2⟩:=cZ ns hl (k+1) W hg.w1
 refine⟨(v,u),⟨hv,hu⟩,aZ (aA ((cf (xs:=[.int (v:Int), .int (u:Int)]) (aK ?_ (aK ?_ rfl))).trans rfl))⟩
 ·exact(ai (ds:=[.scr ns, .int (k:Int), .int (bd.length:Int)]) (aK rfl (aK rfl (aK (yD (i:=2) rfl) rfl))) rfl).trans e
 ·exact(ai (ds:=[.scr ns, .int ((k+1:Nat):Int), .int (W:Int)]) (aK rfl (aK rfl (aK (hg.len0 (i:=2) rfl) rfl))) rfl).trans e2
section
variable{bd:List Str}{W:Nat}
theorem mh{b2:List Str}{V:Nat}(hg:Brd bd W)(hp:Brd b2 V):aU [brd bd,brd b2]=M.ret (.bl (decide (bd.map (mapR (gN (bI bd)))=b2.map (mapR (gN (bI b2)))))):=
 aZ (aA ((aL ((ai (ds:=[brd bd]) rfl rfl).trans (bS hg)) ((ai (ds:=[brd b2]) rfl rfl).trans (bS hp))).trans (hZ gi (by decide) _ _)))
theorem uh{p:Nat}(h:kK ⟨#[p]⟩=true):bY [sg p]=M.ret .non:=
 m9 (cH (mv (b:=true) (jB ((ai (ds:=[sg p]) rfl rfl).trans ((fJ (d:=sg p) trivial).trans (by show M.ret (D.bl (true&&kK ⟨#[p]⟩))=_;rw[h];rfl))))) rfl)
theorem fg(hg:Brd bd W){p q:Nat}(hp:kK ⟨#[p]⟩=true)(hq:kK ⟨#[q]⟩=true):cu [brd bd,sg p,sg q]=M.ret (brd (bd.map (mapR (nO p q)))):=by
 obtain⟨d,d1,d2,d3⟩:=vC p q
 exact aZ (ar (b5 ((ai (ds:=[brd bd]) rfl rfl).trans hg.nb)) (ar (b5 ((ai (ds:=[sg p]) rfl rfl).trans (uh hp))) (ar (b5 ((ai (ds:=[sg q]) rfl rfl).trans (uh hq))) (aA ((ai (ds:=[brd bd,d]) (aK rfl (aK (d3 rfl rfl rfl rfl) rfl)) rfl).trans (fj hg d1 fun r hr c hc=>d2 c))))))
end
theorem yF{δ:DE}{ρ:aT}{i:Int}(h:δ ρ=M.ret (.int i)):oS δ ρ=M.ret (some i):=by
 unfold oS
 rw[h]
 rfl
theorem eQ(f:Nat→Nat)(r:Str):(mapR f r).cps.toList=r.cps.toList.map f:=aV _
theorem sd(f g:Nat→Nat)(r:Str):mapR f (mapR g r)=mapR (f∘g) r:=by
 unfold mapR
 rw[aV,List.map_map]
theorem vX{f:Nat→Nat}{r:Str}(h:∀c∈r.cps.toList,f c=c):mapR f r=r:=by
 unfold mapR
 rw[List.map_congr_left (g:=id) h,List.map_id,fY]
theorem jr(f:Nat→Nat)(bd:List Str):aD (bd.map (mapR f))=(aD bd).map f:=by
 unfold aD
 rw[List.map_map,List.map_flatten,List.map_map]
 congr 1
 first | done | exact List.map_congr_left fun r _=>eQ f r
theorem gu{bd:List Str}{c:Nat}:c∈aD bd↔∃r∈bd,c∈r.cps.toList:=by
 unfold aD
 rw[List.mem_flatten]
 constructor
 ·rintro⟨l,hl,h⟩
  obtain⟨r,hr,rfl⟩:=List.mem_map.mp hl
  exact⟨r,hr,h⟩
 ·rintro⟨r,hr,h⟩
  exact⟨_,List.mem_map.mpr ⟨r,hr,rfl⟩,h⟩
theorem cw{bd:List Str}{W:Nat}(hg:Brd bd W){c:Nat}(h:c∈aD bd):c∈pM:=by
 obtain⟨r,hr,h⟩:=gu.mp h
 exact rp (hg.rows r hr) h
def jq(f:Nat→Nat)(l:List Nat):Prop:=∀a∈l,∀b∈l,f a=f b→a=b
theorem fold_map{f:Nat→Nat}{U:List Nat}(hf:jq f U):∀(l m:List Nat),(∀x∈l,x∈U)→(∀x∈m,x∈U)→(l.map f).foldl df (m.map f)=(l.foldl df m).map f
 |[],m,_,_=>rfl
 |c::l,m,hl,hm=>by
  have hc:=hl c (List.mem_cons_self ..)
  have e:df (m.map f) (f c)=(df m c).map f:=by
   unfold df
   by_cases h:c∈m
   ·rw[if_pos h,if_pos (List.mem_map.mpr ⟨c,h,rfl⟩)]
   ·rw[if_neg h,if_neg (fun z=>by
     obtain⟨a,ha,e⟩:=List.mem_map.mp z
     exact h (hf a (hm a ha) c hc e▸ha)),List.map_append]
    rfl
  rw[List.map_cons,List.foldl_cons,List.foldl_cons,e]
  refine fold_map hf l (df m c) (fun x hx=>hl x (List.mem_cons_of_mem _ hx)) fun x hx=>?_
  rcases gg.mp hx with h | h
  ·exact hm x h
  ·exact h▸hc
theorem oi:∀(l m:List Nat) (x:Nat),x∈l.foldl df m→x∈l∨x∈m
 |[],m,x,h=> .inr h
 |c::l,m,x,h=>by
  rcases oi l (df m c) x h with q | q
  ·exact .inl (List.mem_cons_of_mem _ q)
  ·rcases gg.mp q with r | r
   ·exact .inr r
   ·exact .inl (r▸List.mem_cons_self ..)
theorem b0{bd:List Str}{c:Nat}:c∈bI bd↔c∈aD bd:=
 ⟨fun h=>(oi _ _ _ h).elim id (fun z=>by cases z),fun h=>lD _ _ _ (.inl h)⟩
theorem oI{f:Nat→Nat}{bd:List Str}(hf:jq f (aD bd)):bI (bd.map (mapR f))=(bI bd).map f:=by
 unfold bI
 rw[jr]
 exact fold_map hf (aD bd) [] (fun x hx=>hx) (fun x hx=>by cases hx)
theorem d8{bd:List Str}{W:Nat}(hg:Brd bd W):LetOk (bI bd):=oh _ _ ⟨List.nodup_nil,fun c h=>by cases h⟩ fun c hc=>cw hg hc
theorem idx_map{f:Nat→Nat}{c:Nat}:∀{ms:List Nat},jq f ms→c∈ms→(ms.map f).idxOf (f c)=ms.idxOf c
 |[],_,h=>by cases h
 |m::ms,hf,h=>by
  rw[List.map_cons,List.idxOf_cons,List.idxOf_cons]
  by_cases e:m=c
  ·subst e
   rw[beq_self_eq_true,beq_self_eq_true]
   rfl
  ·have hc:c∈ms:=(List.mem_cons.mp h).resolve_left fun z=>e z.symm
   have ne:¬f m=f c:=fun z=>e (hf m (List.mem_cons_self ..) c h z)
   rw[beq_false_of_ne e,beq_false_of_ne ne,idx_map (fun a ha b hb=>hf a (List.mem_cons_of_mem _ ha) b (List.mem_cons_of_mem _ hb)) hc]
def aJ(bd:List Str):List Str:=bd.map (mapR (gN (bI bd)))
theorem kf{f:Nat→Nat}{bd:List Str}(hf:jq f (aD bd)):aJ (bd.map (mapR f))=aJ bd:=by
 unfold aJ
 rw[oI hf,List.map_map]
 refine List.map_congr_left fun r hr=>?_
 show mapR _ (mapR f r)=_
 rw[sd]
 unfold mapR
 congr 1
 refine List.map_congr_left fun c hc=>?_
 have xu:c∈bI bd:=b0.mpr (gu.mpr ⟨r,hr,hc⟩)
 show gN _ (f c)=_
 unfold gN
 rw[if_pos xu,if_pos (List.mem_map.mpr ⟨c,xu,rfl⟩),idx_map (fun a ha b hb=>hf a (b0.mp ha) b (b0.mp hb)) xu]
theorem lE{ms:List Nat}{c:Nat}(h:c∈ms):gN ms c=97+ms.idxOf c:=if_pos h
theorem yc{ms:List Nat}:jq (gN ms) ms:=fun a ha b hb e=>by
 rw[lE ha,lE hb] at e
 have e:ms.idxOf a=ms.idxOf b:=by omega
 have h1:=List.getElem_idxOf (List.idxOf_lt_length_iff.mpr ha)
 have h2:=List.getElem_idxOf (List.idxOf_lt_length_iff.mpr hb)
 rw[←h1,←h2]
 congr 1
theorem jm{bd:List Str}:jq (gN (bI bd)) (aD bd):=fun a ha b hb e=>yc a (b0.mpr ha) b (b0.mpr hb) e
theorem uc{ms:List Nat}(hn:ms.Nodup):ms.map (gN ms)=(List.range ms.length).map (97+ ·):=by
 refine List.ext_getElem (by simp) fun i h1 h2=>?_
 have hi:i<ms.length:=by simpa using h1
 rw[List.getElem_map,List.getElem_map,List.getElem_range,lE (List.getElem_mem hi),List.Nodup.idxOf_getElem hn]
theorem yp{c:Nat}(h:c∈pM):kK ⟨#[c]⟩=true:=(qU c).trans (decide_eq_true h)
theorem jR{f:Nat→Nat}{bd:List Str}{W:Nat}(hG:Good bd W)(hf:∀c∈aD bd,f c∈pM):Good (bd.map (mapR f)) W:=by
 refine⟨by rw[List.length_map];exact hG.r1,by rw[List.length_map];exact hG.r5,hG.w1,hG.w5,fun r hr=>?_⟩
 obtain⟨q,hq,rfl⟩:=List.mem_map.mp hr
 refine⟨?_,fun c hc=>?_⟩
 ·show (dE (q.cps.toList.map f)).length=W
  rw[gq,List.length_map]
  exact(hG.rows q hq).len
 ·rw[eQ] at hc
  obtain⟨a,ha,rfl⟩:=List.mem_map.mp hc
  exact yp (hf a (gu.mpr ⟨q,hq,ha⟩))
theorem yb{bd:List Str}{W:Nat}(hg:Brd bd W){c:Nat}(h:c∈aD bd):gN (bI bd) c∈pM:=by
 have xu:=b0.mpr h
 rw[lE xu]
 have h6:=(d8 hg).len
 have:=List.idxOf_lt_length_iff.mpr xu
 have:(bI bd).idxOf c<6:=by omega
 generalize (bI bd).idxOf c=i at this
 simp only[List.mem_cons,List.not_mem_nil,or_false]
 omega
theorem uZ{bd:List Str}{W:Nat}(hG:Good bd W):Good (aJ bd) W:=jR hG fun c hc=>yb hG.brd hc
theorem ub{f:Nat→Nat}{bd:List Str}{W:Nat}(hg:Brd bd W){c:Cell}(hc:On bd.length W c):lt (bd.map (mapR f)) c=f (lt bd c):=by
 have h1:c.1<bd.length:=hc.1
 have hr:(bd.getD c.1 ⟨#[]⟩).cps.toList.length=W:=(hg.rows _ (getD_mem h1)).len
 have h2:c.2<(bd.getD c.1 ⟨#[]⟩).cps.toList.length:=by rw[hr];exact hc.2
 show ch ((bd.map (mapR f)).getD c.1 ⟨#[]⟩) c.2=f (ch (bd.getD c.1 ⟨#[]⟩) c.2)
 rw[List.getD_eq_getElem?_getD,List.getElem?_map,List.getElem?_eq_getElem h1]
 rw[List.getD_eq_getElem?_getD,List.getElem?_eq_getElem h1] at h2⊢
 simp only[Option.map_some,Option.getD_some] at h2⊢
 unfold ch
 rw[eQ,List.getD_eq_getElem?_getD,List.getElem?_map,List.getElem?_eq_getElem h2,List.getD_eq_getElem?_getD,List.getElem?_eq_getElem h2]
 rfl
theorem qZ{bd:List Str}{W:Nat}(hg:Brd bd W){c:Cell}(hc:On bd.length W c):lt bd c∈aD bd:=by
 have h1:c.1<bd.length:=hc.1
 have hr:(bd.getD c.1 ⟨#[]⟩).cps.toList.length=W:=(hg.rows _ (getD_mem h1)).len
 have h2:c.2<(bd.getD c.1 ⟨#[]⟩).cps.toList.length:=by rw[hr];exact hc.2
 refine gu.mpr ⟨_,getD_mem h1,?_⟩
 show ch (bd.getD c.1 ⟨#[]⟩) c.2∈_
 generalize bd.getD c.1 ⟨#[]⟩=r at h2
 unfold ch
 rw[List.getD_eq_getElem?_getD,List.getElem?_eq_getElem h2]
 exact List.getElem_mem h2
open PySem.Builtin PySem.Builtin.Str in
theorem qA{x:Str}{i j:Int}(h:(x.length:Int)≤j):Txt.slice x (some i) (some j)=Txt.slice x (some i) (some (x.length:Int)):=by
 show StrLaws.sliceText x _ _=StrLaws.sliceText x _ _
 have e:strSliceIndices (some i) (some j) 1 x.length=strSliceIndices (some i) (some (x.length:Int)) 1 x.length:=by
  have a:¬((x.length:Int)<0):=by omega
  have b:¬(j<0):=by omega
  have c:min j (x.length:Int)=(x.length:Int):=by omega
  simp[strSliceIndices,a,b,c]
 unfold StrLaws.sliceText
 rw[e]
theorem qz{x:Str}{i W:Nat}(hl:x.length=W)(hi:i≤W):Txt.slice x (some (i:Int)) (some ((i:Int)+(W:Int)))=dE (x.cps.toList.drop i):=by
 rw[qA (by omega)]
 have q:=eq_of_beq (PyProof.Rows.slice_closesL (x:=x) (i:=(i:Int)) (j:=(x.length:Int)) (by omega) (by omega) (by omega))
 rw[q]
 refine en ?_
 have e:((x.length:Int) - (i:Int)).toNat=x.length - i:=by omega
 rw[e,aV]
 have hx:x.length=x.cps.toList.length:=rfl
 rw[hx,Int.toNat_natCast,List.take_of_length_le (by rw[List.length_drop];exact Nat.le_refl _)]
theorem p6{bd pt:List Str}{W:Nat}(hg:Brd bd W)(hp:Brd pt W)(hl:pt.length=bd.length){x:Cell}(hx:On bd.length W x):gr bd pt W x=decide (x=(0,0)∧bd=pt):=by
 have h1:=hx.1
 have h2:=hx.2
 have w1:=hg.w1
 have e1:sIx bd.length 0 (some (x.1:Int))=x.1:=by rw[sIx_nat];omega
 have e2:sIx bd.length bd.length (some ((x.1:Int)+(pt.length:Int)))=bd.length:=by
  have:(x.1:Int)+(pt.length:Int)=((x.1+pt.length:Nat):Int):=by omega
  rw[this,sIx_nat]
  omega
 have hc:x.1=0→eU bd (x.1:Int) ((x.1:Int)+(pt.length:Int)) (x.2:Int) ((x.2:Int)+(W:Int))=bd.map fun r=>dE (r.cps.toList.drop x.2):=fun z1=>by
  unfold eU mn
  rw[e1,e2,z1,List.drop_zero,Nat.sub_zero,List.take_length]
  exact List.map_congr_left fun r hr=>qz (hg.rows r hr).len (by omega)
 unfold gr
 refine decide_eq_decide.mpr ⟨fun e=>?_,?_⟩
 ·have ll:=congrArg List.length e
  unfold eU mn at ll
  rw[List.length_map,e1,e2,List.length_take,List.length_drop] at ll
  have z1:x.1=0:=by omega
  rw[hc z1] at e
  obtain⟨r,t,rfl⟩:∃r t,bd=r::t:=by
   cases bd with
   |nil=>exact absurd hg.r1 (by decide)
   |cons r t=>exact⟨r,t,rfl⟩
  have hm:dE (r.cps.toList.drop x.2)∈pt:=by rw[←e];exact List.mem_map.mpr ⟨r,List.mem_cons_self ..,rfl⟩
  have hw:=(hp.rows _ hm).len
  have hr:r.cps.toList.length=W:=(hg.rows r (List.mem_cons_self ..)).len
  rw[gq,List.length_drop,hr] at hw
  have z2:x.2=0:=by omega
  refine⟨Prod.ext z1 z2,?_⟩
  rw[←e,z2]
  conv=>lhs;rw[←List.map_id (r::t)]
  exact List.map_congr_left fun q _=>by rw[List.drop_zero,fY];rfl
 ·rintro⟨rfl,rfl⟩
  refine(hc rfl).trans ?_
  conv=>rhs;rw[←List.map_id bd]
  exact List.map_congr_left fun q _=>by rw[List.drop_zero,fY];rfl
theorem jy{R W:Nat}(hR:1≤R)(hW:1≤W):∃t,a_ R W=(0,0)::t∧(0,0)∉t:=by
 obtain⟨r,rfl⟩:∃r,R=r+1:=⟨R - 1,by omega⟩
 obtain⟨w,rfl⟩:∃w,W=w+1:=⟨W - 1,by omega⟩
 unfold a_ dw
 rw[List.range_succ_eq_map,List.range_succ_eq_map,List.flatMap_cons,List.map_cons]
 refine⟨_,rfl,fun h=>?_⟩
 rcases List.mem_append.mp h with h | h
 ·obtain⟨a,ha,e⟩:=List.mem_map.mp h
  obtain⟨b,_,rfl⟩:=List.mem_map.mp ha
  exact absurd (congrArg Prod.snd e) (by simp)
 ·obtain⟨a,ha,h⟩:=List.mem_flatMap.mp h
  obtain⟨b,_,rfl⟩:=List.mem_map.mp ha
  obtain⟨c,_,e⟩:=List.mem_map.mp h
  exact absurd (congrArg Prod.fst e) (by simp)
theorem iE{bd pt:List Str}{W:Nat}(hg:Brd bd W)(hp:Brd pt W)(hl:pt.length=bd.length):bQ [brd bd,brd pt]=M.ret (cL (if bd=pt then [(0,0)] else [])):=by
 rw[rQ hg hp]
 congr 2
 have e:(a_ bd.length W).filter (gr bd pt W)=(a_ bd.length W).filter fun x=>decide (x=(0,0)∧bd=pt):=List.filter_congr fun x hx=>p6 hg hp hl (fX.mp hx)
 rw[e]
 obtain⟨t,ht,hn⟩:=jy hg.r1 hg.w1
 rw[ht,List.filter_cons]
 have h0:t.filter (fun x=>decide (x=(0,0)∧bd=pt))=[]:=List.filter_eq_nil_iff.mpr fun x hx z=>hn ((of_decide_eq_true z).1▸hx)
 rw[h0]
 by_cases h:bd=pt
 ·rw[if_pos h,if_pos (decide_eq_true ⟨rfl,h⟩)]
 ·rw[if_neg h,if_neg (fun z=>h (of_decide_eq_true z).2)]
section
variable{bd:List Str}{W:Nat}
theorem vV(s:List Nat):(cV s).Nodup:=List.Nodup.sublist (List.filter_sublist) (by decide)
theorem ud{s:List Nat}(hs:∀c∈s,c∈pM){c:Nat}:c∈cV s↔c∈s:=by
 unfold cV
 rw[List.mem_filter]
 exact⟨fun h=>of_decide_eq_true h.2,fun h=>⟨hs c h,decide_eq_true h⟩⟩
theorem lK(hg:Brd bd W):(cV (aD bd)).Perm (bI bd):=
 (List.perm_ext_iff_of_nodup (vV _) (d8 hg).1).mpr fun c=>(ud fun c hc=>cw hg hc).trans b0.symm
theorem jQ(hg:Brd bd W):cV ((aD bd).map (gN (bI bd)))=(List.range (bI bd).length).map (97+ ·):=by
 have h6:=(d8 hg).len
 have xu:∀i,i<6→(decide (97+i∈(aD bd).map (gN (bI bd)))=decide (i<(bI bd).length)):=fun i hi=>by
  refine decide_eq_decide.mpr ⟨fun h=>?_,fun h=>?_⟩
  ·obtain⟨c,hc,e⟩:=List.mem_map.mp h
   have hc:=b0.mpr hc
   rw[lE hc] at e
   have:=List.idxOf_lt_length_iff.mpr hc
   omega
  ·refine List.mem_map.mpr ⟨(bI bd)[i],b0.mp (List.getElem_mem h),?_⟩
   rw[lE (List.getElem_mem h),List.Nodup.idxOf_getElem (d8 hg).1]
 unfold cV
 have e:pM.filter (fun c=>decide (c∈(aD bd).map (gN (bI bd))))=((List.range 6).filter fun i=>decide (i<(bI bd).length)).map (97+ ·):=by
  have e0:pM=(List.range 6).map (97+ ·):=rfl
  rw[e0,List.filter_map]
  congr 1
  exact List.filter_congr fun i hi=>xu i (List.mem_range.mp hi)
 rw[e]
 congr 1
 have:∀n,n≤6→(List.range 6).filter (fun i=>decide (i<n))=List.range n:=by decide
 exact this _ h6
theorem count_map{f:Nat→Nat}{c:Nat}:∀{l:List Nat},(∀a∈l,f a=f c→a=c)→(l.map f).count (f c)=l.count c
 |[],_=>rfl
 |a::l,h=>by
  have ih:=count_map (l:=l) fun x hx=>h x (List.mem_cons_of_mem _ hx)
  rw[List.map_cons]
  by_cases e:a=c
  ·subst e
   rw[List.count_cons_self,List.count_cons_self,ih]
  ·rw[List.count_cons_of_ne e,List.count_cons_of_ne (fun z=>e (h a (List.mem_cons_self ..) z)),ih]
theorem n4(hg:Brd bd W):((cV (aD (aJ bd))).map fun c=>((aD (aJ bd)).count c:Int)).Perm ((cV (aD bd)).map fun c=>((aD bd).count c:Int)):=by
 have e1:aD (aJ bd)=(aD bd).map (gN (bI bd)):=jr ..
 have e2:(cV (aD (aJ bd))).map (fun c=>((aD (aJ bd)).count c:Int))=(bI bd).map fun c=>((aD bd).count c:Int):=by
  rw[e1,jQ hg,←uc (d8 hg).1,List.map_map]
  refine List.map_congr_left fun c hc=>?_
  show ((((aD bd).map (gN (bI bd))).count (gN (bI bd) c):Nat):Int)=_
  rw[count_map fun a ha z=>jm a ha c (b0.mp hc) z]
 rw[e2]
 exact((lK hg).map _).symm
theorem vc{a b:List Int}(h:a.Perm b):et a=et b:=mR ((cN a).trans (h.trans (cN b).symm)) (fy a) (fy b)
theorem lR:∀l:List Int,nums (l.map D.int)=some l
 |[]=>rfl
 |x::r=>by
  show (nums (r.map D.int)).map _=_
  rw[lR r]
  rfl
theorem eO(s:List Nat):(cV s).length≤6:=List.length_filter_le ..
theorem oH(hg:Brd bd W){i:Nat}{ρ:aT}(h0:ρ[i]? =some (fz (brd bd))):dA ph (aC (aW 2 (mr (ak 1 aQ (aC (dV i) aN))) bc (dV 1)) aN) ρ=M.ret (.lst ((et ((cV (aD bd)).map fun c=>((aD bd).count c:Int))).map D.int)):=by
 have cm:aW 2 (mr (ak 1 aQ (aC (dV i) aN))) bc (dV 1) ρ=M.ret (.lst (((cV (aD bd)).map fun c=>((aD bd).count c:Int)).map D.int)):=by
  refine bz (ds:=(cV (aD bd)).map (wj (aD bd))) ?_ ?_ (by rw[List.length_map,List.length_map,c5];have:=eO (aD bd);omega)
  ·show (ak 1 aQ (aC (dV i) aN) ρ>>=lstM)=_
   rw[(ai (ds:=[brd bd]) (aK (cg h0) rfl) rfl:ak 1 aQ (aC (dV i) aN) ρ=_),eP hg]
   rfl
  ·rw[List.map_map]
   exact fS (wj (aD bd)) _ _ fun c _=>rfl
 refine(cf (xs:=[.lst (((cV (aD bd)).map fun c=>((aD bd).count c:Int)).map D.int)]) (aK cm rfl)).trans ?_
 show (match nums (((cV (aD bd)).map fun c=>((aD bd).count c:Int)).map D.int) with | some ns=>if ns.length<64 then M.ret (D.lst ((et ns).map D.int)) else M.stuck | none=>M.stuck)=_
 rw[lR]
 exact if_pos (by rw[List.length_map];have:=eO (aD bd);omega)
theorem si(hg:Brd bd W){i:Nat}{ρ:aT}(h0:ρ[i]? =some (fz (brd bd))):aW 2 (mr (ak 1 aQ (aC (dV i) aN))) bc (dV 0) ρ=M.ret (.lst ((cV (aD bd)).map sg)):=by
 refine bz (ds:=(cV (aD bd)).map (wj (aD bd))) ?_ (fS (wj (aD bd)) _ _ fun c _=>rfl) (by rw[List.length_map,c5];have:=eO (aD bd);omega)
 show (ak 1 aQ (aC (dV i) aN) ρ>>=lstM)=_
 rw[(ai (ds:=[brd bd]) (aK (cg h0) rfl) rfl:ak 1 aQ (aC (dV i) aN) ρ=_),eP hg]
 rfl
theorem sJ{n:Nat}(h:n≤6):Txt.slice "abcdef" none (some (n:Int))=dE ((List.range n).map (97+ ·)):=by
 have:∀n,n≤6→Txt.slice "abcdef" none (some ((n:Nat):Int))=dE ((List.range n).map (97+ ·)):=by decide+kernel
 exact this n h
theorem nT{n:Nat}(h:n≤6){δ:DE}{ρ:aT}(hδ:δ ρ=M.ret (.int (n:Int))):pU (dC (.str "abcdef")) oN (oS δ) ρ=M.ret (.str (dE ((List.range n).map (97+ ·)))):=by
 unfold pU
 rw[show dC (.str "abcdef") ρ=M.ret (.str "abcdef") from rfl,ah,show oN ρ=M.ret none from rfl,ah,yF hδ]
 show M.ret (D.str (Txt.slice "abcdef" none (some (n:Int))))=_
 rw[sJ h]
theorem xZ:eC 0 sg:=fun k x y=>by
 show jF (0+k) (.str _) (.str _)=_
 rw[qQ]
 congr 1
 by_cases h:x=y
 ·subst h;rw[decide_eq_true rfl,beq_self_eq_true]
 ·rw[decide_eq_false h]
  refine beq_eq_false_iff_ne.mpr fun z=>h ?_
  have:=congrArg (fun s:Str=>s.cps.toList) z
  simpa using this
theorem vg{p q:Nat}:jq (nO p q) pM:=fun a _ b _ e=>by
 unfold nO at e
 split at e<;>split at e<;>(repeat' split at e)<;>omega
theorem vf{p q c:Nat}(hp:p∈pM)(hq:q∈pM)(hc:c∈pM):nO p q c∈pM:=by
 unfold nO
 split
 ·split
  ·exact hp
  ·exact hq
 ·split
  ·exact hp
  ·exact hc
end
abbrev sW(s a b c:D)(a4 a5 a6 a7 a8:Option Sl):aT:=[fz s,fz a,fz b,fz c,a4,a5,a6,a7,a8]
theorem cO{bd:List Str}{W:Nat}(hg:Brd bd W){c:Cell}(h:On bd.length W c):bE [brd bd,cD c]=M.ret (sg (lt bd c)):=
 aZ (ar (b5 ((ai (ds:=[brd bd]) rfl rfl).trans hg.nb)) (ar (b5 ((ai (ds:=[brd bd,cD c]) rfl rfl).trans (hg.nc h))) (aA ((ai (ds:=[brd bd,cD c]) rfl rfl).trans (kL hg h)))))
theorem t7(ns:List Int)(hl:ns.length≤63):fo [.scr ns]=M.ret (.bl true):=by
 obtain⟨bd,W,hG,eb⟩:=lg ns hl 0 5 (by decide) (by decide)
 obtain⟨ob,V,hO,eo⟩:=lg ns hl 60 3 (by decide) (by decide)
 have hg:=hG.brd
 have ho:=hO.brd
 have hP:=uZ hG
 have hp:=hP.brd
 have hlen:(aJ bd).length=bd.length:=List.length_map ..
 obtain⟨x3,EL,sT⟩:=nY ns hl hg 90
 have BI:aO [brd bd]=M.ret (brd (aJ bd)):=bS hg
 have h6:=(d8 hg).len
 have DU:kK ⟨#[97]⟩=true:=by decide+kernel
 have DV:kK ⟨#[98]⟩=true:=by decide+kernel
 have C3:kK ⟨#[99]⟩=true:=by decide+kernel
 have zI:kK ⟨#[100]⟩=true:=by decide+kernel
 have z4:Good (ob.map (mapR (nO 97 99))) V:=jR hO fun c hc=>vf (by decide) (by decide) (cw ho hc)
 have Dh:Good ((ob.map (mapR (nO 97 99))).map (mapR (nO 99 98))) V:=jR z4 fun c hc=>vf (by decide) (by decide) (cw z4.brd hc)
 have Be:aJ ((ob.map (mapR (nO 97 99))).map (mapR (nO 99 98)))=aJ ob:=by
  rw[kf fun a ha b hb=>vg a (cw z4.brd ha) b (cw z4.brd hb),kf fun a ha b hb=>vg a (cw ho ha) b (cw ho hb)]
 generalize hT:(ob.map (mapR (nO 97 99))).map (mapR (nO 99 98))=tb at Dh Be
 have ht:=Dh.brd
 have t_:∀{a b:List Str}{A B:Nat},Brd a A→Brd b B→aU [brd a,brd b]=M.ret (.bl (decide (aJ a=aJ b))):=fun h1 h2=>mh h1 h2
 have EB:aJ (aJ bd)=aJ bd:=kf jm
 have zT:bI (aJ bd)=(List.range (bI bd).length).map (97+ ·):=(oI jm).trans (uc (d8 hg).1)
 refine aZ ?_
 refine ar (ρ':=[fz (.scr ns),fz (brd bd),none,none,none,none,none,none,none]) ((bq ((ai (ds:=[.scr ns, .int 0, .int 5]) rfl rfl).trans eb)).trans rfl) ?_
 refine ar (ρ':=[fz (.scr ns),fz (brd bd),fz (brd ob),none,none,none,none,none,none]) ((bq ((ai (ds:=[.scr ns, .int 60, .int 3]) rfl rfl).trans eo)).trans rfl) ?_
 refine ar (ρ':=sW (.scr ns) (brd bd) (brd ob) (brd (aJ bd)) none none none none none) ((bq ((ai (ds:=[brd bd]) rfl rfl).trans BI)).trans rfl) ?_
 refine ar (cH (ku ((aL (oH hp (i:=3) rfl) (oH hg (i:=1) rfl)).trans ((mw (jj vD) (by decide) _ _).trans (by rw[decide_eq_true (vc (n4 hg))];rfl)))) rfl) ?_
 refine ar (cH (ku ((aL (x:= .lst ((cV (aD (aJ bd))).map sg)) (y:= .lst (((List.range (cV (aD bd)).length).map (97+ ·)).map sg)) (si hp (i:=3) rfl) ?_).trans ((mw (jj xZ) (by decide) _ _).trans ?_))) rfl) ?_
 ·have e:dA bg (aC (ak 1 aQ (aC (dV 1) aN)) aN) (sW (.scr ns) (brd bd) (brd ob) (brd (aJ bd)) none none none none none)=M.ret (.int ((cV (aD bd)).length:Int)):=by
   refine(cf (xs:=[.lst ((cV (aD bd)).map (wj (aD bd)))]) (aK ((ai (ds:=[brd bd]) rfl rfl).trans (eP hg)) rfl)).trans ?_
   show M.ret (D.int (((cV (aD bd)).map (wj (aD bd))).length:Int))=_
   rw[List.length_map]
  refine(cf (xs:=[.str (dE ((List.range (cV (aD bd)).length).map (97+ ·)))]) (aK (nT (eO _) e) rfl)).trans ?_
  have B6:=eO (aD bd)
  refine(if_pos (by rw[gq,List.length_map,List.length_range,c5];omega)).trans ?_
  rw[kn,aV]
 ·have e1:aD (aJ bd)=(aD bd).map (gN (bI bd)):=jr ..
  rw[e1,jQ hg,(lK hg).length_eq,decide_eq_true rfl]
  rfl
 obtain⟨ct,BW,_⟩:=jy hg.r1 hg.w1
 obtain⟨lc,B7⟩:∃lc,(a_ bd.length W).getLast? =some lc:=by rw[BW];exact⟨_,List.getLast?_cons ..⟩
 have Dq:On bd.length W lc:=fX.mp (List.mem_of_getLast? B7)
 have D5:On bd.length W (0,0):=⟨hg.r1,hg.w1⟩
 have eqv:∀{a b:Cell},On bd.length W a→On bd.length W b→(decide (lt (aJ bd) a=lt (aJ bd) b))=decide (lt bd a=lt bd b):=fun {a b} ha hb=>by
  unfold aJ
  rw[ub hg ha,ub hg hb]
  refine decide_eq_decide.mpr ⟨fun e=>jm _ (qZ hg ha) _ (qZ hg hb) e,fun e=>by rw[e]⟩
 refine ar (ρ':=sW (.scr ns) (brd bd) (brd ob) (brd (aJ bd)) none none none none none) (gz (l9 (ds:=(a_ bd.length W).map cD) ?_ (ib cD _ (a_ bd.length W) fun a ha=>?_))) ?_
 ·show (ak 1 b7 (aC (dV 1) aN) _>>=lstM)=_
  rw[(ai (ds:=[brd bd]) rfl rfl:ak 1 b7 (aC (dV 1) aN) _=_),lq hg]
  rfl
 ·have ha:=fX.mp ha
  refine⟨sW (.scr ns) (brd bd) (brd ob) (brd (aJ bd)) (fz (cD a)) none none none none,rfl,(dz (l9 (ds:=[(0,0),lc,x3].map cD) ?_ (ib cD (sW (.scr ns) (brd bd) (brd ob) (brd (aJ bd)) (fz (cD a)) none none none none) [(0,0),lc,x3] fun b hb=>?_))).trans rfl⟩
  ·have ec:ak 1 b7 (aC (dV 1) aN) (sW (.scr ns) (brd bd) (brd ob) (brd (aJ bd)) (fz (cD a)) none none none none)=M.ret (cL (a_ bd.length W)):=(ai (ds:=[brd bd]) rfl rfl).trans (lq hg)
   have e1:fU (cL (a_ bd.length W)) (.int 0)=M.ret (cD (0,0)):=by rw[BW];exact yt (i:=0) rfl
   have e2:fU (cL (a_ bd.length W)) (.int (-1))=M.ret (cD lc):=by
    have nP:a_ bd.length W≠[]:=by rw[BW];exact fun z=>by cases z
    have hd:=List.dropLast_concat_getLast nP
    have:(a_ bd.length W).getLast nP=lc:=by rw[List.getLast?_eq_some_getLast nP] at B7;exact Option.some.inj B7
    rw[this] at hd
    rw[←hd]
    show fU (.lst (((a_ bd.length W).dropLast++[lc]).map cD)) _=_
    rw[List.map_append]
    exact vQ _ _
   have e:dA dS (aC (d2 fU (ak 1 b7 (aC (dV 1) aN)) (dC (.int 0))) (aC (d2 fU (ak 1 b7 (aC (dV 1) aN)) (d1 yE (dC (.int 1)))) (aC (ak 3 bH (aC (dV 0) (aC (dC (.int 90)) (aC (dV 1) aN)))) aN))) (sW (.scr ns) (brd bd) (brd ob) (brd (aJ bd)) (fz (cD a)) none none none none)=M.ret (.tup [cD (0,0),cD lc,cD x3]):=
    (cf (xs:=[cD (0,0),cD lc,cD x3]) (aK ((aL ec rfl).trans e1) (aK ((aL (y:= .int (-1)) ec rfl).trans e2) (aK ((ai (ds:=[.scr ns, .int 90,brd bd]) rfl rfl).trans sT) rfl)))).trans rfl
   unfold fB
   rw[e]
   rfl
  ·have hb:On bd.length W b:=by
    simp only[List.mem_cons,List.not_mem_nil,or_false] at hb
    rcases hb with rfl | rfl | rfl
    ·exact D5
    ·exact Dq
    ·exact EL
   have Eb:On (aJ bd).length W a:=by rw[hlen];exact ha
   have BU:On (aJ bd).length W b:=by rw[hlen];exact hb
   refine⟨_,rfl,(dz (cH (ku ((aL (x:= .bl (decide (lt (aJ bd) a=lt (aJ bd) b))) (y:= .bl (decide (lt bd a=lt bd b))) ((aL (x:=sg (lt (aJ bd) a)) (y:=sg (lt (aJ bd) b)) ((ai (ds:=[brd (aJ bd),cD a]) rfl rfl).trans (cO hp Eb)) ((ai (ds:=[brd (aJ bd),cD b]) rfl rfl).trans (cO hp BU))).trans (xl _ _)) ((aL (x:=sg (lt bd a)) (y:=sg (lt bd b)) ((ai (ds:=[brd bd,cD a]) rfl rfl).trans (cO hg ha)) ((ai (ds:=[brd bd,cD b]) rfl rfl).trans (cO hg hb))).trans (xl _ _))).trans ((q9 _ _).trans (by rw[eqv ha hb,beq_self_eq_true];rfl)))) rfl)).trans rfl⟩
 refine ar (ρ':=sW (.scr ns) (brd bd) (brd ob) (brd (aJ bd)) none none (fz (.str (dE []))) none none) rfl ?_
 obtain⟨_,lp⟩:=h9 (put:=putN 7) (body:=f6 [7] (cS 6 (d2 oo (dV 6) (d2 lF (dV 7) (dA p3 (aC (d2 (eJ true) (dV 7) (dV 6)) aN)))))) sg (fun ms=>sW (.scr ns) (brd bd) (brd ob) (brd (aJ bd)) none none (fz (.str (dE ms))) none none) df LetOk (aD (aJ bd)) [] ⟨List.nodup_nil,fun c h=>by cases h⟩ fun s hs c hc=>
  ⟨hs.add (cw hp hc),sW (.scr ns) (brd bd) (brd ob) (brd (aJ bd)) none none (fz (.str (dE s))) (fz (sg c)) none,rfl,(dz ((bq (ue (i:=6) (j:=7) hs rfl rfl)).trans rfl)).trans rfl⟩
 refine ar (ρ':=sW (.scr ns) (brd bd) (brd ob) (brd (aJ bd)) none none (fz (.str (dE (bI (aJ bd))))) none none) (gz (l9 (ds:=(aD (aJ bd)).map sg) ?_ lp)) ?_
 ·show (dM jL joinM (dC (.str "")) (aC (dV 3) aN) _>>=gS)=_
  rw[mF hp (i:=3) rfl]
  show M.ret (signs (dE (aD (aJ bd))))=_
  rw[kn,aV]
 refine ar (cH (ku ((aL (x:= .str (dE (bI (aJ bd)))) (y:= .str (dE ((List.range (bI bd).length).map (97+ ·)))) rfl (nT h6 ?_)).trans ((mw qP (by decide) _ _).trans (by rw[zT,decide_eq_true rfl];rfl)))) rfl) ?_
 ·refine(cf (xs:=[.str (dE (bI (aJ bd)))]) rfl).trans ?_
  show M.ret (D.int ((dE (bI (aJ bd))).length:Int))=_
  rw[gq,zT,List.length_map,List.length_range]
 refine ar (ρ':=sW (.scr ns) (brd bd) (brd ob) (brd (aJ bd)) none none (fz (.str (dE (bI (aJ bd))))) none (fz (brd tb))) ((bq (d:=brd tb) ((ai (ds:=[brd (ob.map (mapR (nO 97 99))),sg 99,sg 98]) (aK ((ai (ds:=[brd ob,sg 97,sg 99]) rfl rfl).trans (fg ho DU C3)) (aK rfl (aK rfl rfl))) rfl).trans ((fg z4.brd C3 DV).trans (by rw[hT])))).trans rfl) ?_
 have l1:=t_ ho ht
 have l2:=t_ hg ho
 have l3:=t_ ho hg
 have l4:=t_ hg ht
 have l5:=t_ hp hg
 rw[Be,decide_eq_true rfl] at l1
 rw[Be] at l4
 rw[EB,decide_eq_true rfl] at l5
 have sy:decide (aJ ob=aJ bd)=decide (aJ bd=aJ ob):=decide_eq_decide.mpr ⟨Eq.symm,Eq.symm⟩
 rw[sy] at l3
 refine ar (cH ((zR (p:=false) (q:=false) (mv (b:=true) (jB ((ai (ds:=[brd ob,brd tb]) rfl rfl).trans l1))) (ku ((aL ((ai (ds:=[brd bd,brd ob]) rfl rfl).trans l2) ((ai (ds:=[brd ob,brd bd]) rfl rfl).trans l3)).trans ((q9 _ _).trans (by rw[beq_self_eq_true];rfl))))).trans rfl) rfl) ?_
 refine ar (cH (ku ((aL ((ai (ds:=[brd bd,brd tb]) rfl rfl).trans l4) ((ai (ds:=[brd bd,brd ob]) rfl rfl).trans l2)).trans ((q9 _ _).trans (by rw[beq_self_eq_true];rfl)))) rfl) ?_
 refine ar (cH (ku ((aL (y:= .bl true) ((ai (ds:=[brd (aJ bd),brd bd]) rfl rfl).trans l5) rfl).trans rfl)) rfl) ?_
 have f1:=iE hp hp rfl
 rw[if_pos rfl] at f1
 have f2:=iE hg hp hlen
 refine ar (cH (ku ((aL (y:=cL [(0,0)]) ((ai (ds:=[brd (aJ bd),brd (aJ bd)]) rfl rfl).trans f1) rfl).trans ((Al _ _).trans (by rw[decide_eq_true rfl];rfl)))) rfl) ?_
 refine ar (cH (ku ((aL (x:= .bl (decide (aJ bd=bd))) (y:= .bl (decide (aJ bd=bd))) ((aL (y:=cL [(0,0)]) ((ai (ds:=[brd bd,brd (aJ bd)]) rfl rfl).trans f2) rfl).trans ((zU _ _).trans ?_)) ((aL (x:=brd (aJ bd)) (y:=brd bd) rfl rfl).trans (hZ gi (by decide) _ _))).trans ((q9 _ _).trans (by rw[beq_self_eq_true];rfl)))) rfl) ?_
 ·by_cases h:bd=aJ bd
  ·rw[if_pos h,decide_eq_true rfl,decide_eq_true h.symm]
  ·rw[if_neg h,decide_eq_false (show¬aJ bd=bd from fun z=>h z.symm)]
   rfl
 have En:bd.map (mapR (nO 100 100))=bd:=by
  conv=>rhs;rw[←List.map_id bd]
  refine List.map_congr_left fun r _=>vX fun c _=>?_
  unfold nO
  split
  ·rename_i h;exact h.symm
  ·rfl
 refine aA ((vz (p:=true) (q:=true) ?_ ?_).trans rfl)
 ·exact(aL (x:=brd (aJ tb)) (y:=brd (aJ ob)) ((ai (ds:=[brd tb]) rfl rfl).trans (bS ht)) ((ai (ds:=[brd ob]) rfl rfl).trans (bS ho))).trans ((hZ gi (by decide) _ _).trans (by rw[Be,decide_eq_true rfl]))
 ·exact(aL (y:=brd bd) ((ai (ds:=[brd bd,sg 100,sg 100]) rfl rfl).trans (fg hg zI zI)) rfl).trans ((hZ gi (by decide) _ _).trans (by rw[En,decide_eq_true rfl]))
end K1
namespace K1
open PySem PySem.Spec L2 L3
open PyProof.Rows hiding St
def DF(K:W.Frag)(x:Str)(s:Stmt):Prop:=∃(f:Addr) (oc:Value) (od an:Option Addr) (sl:Array (Option Value)) (kV dc pm cd ct:Value),PySem.W.nsIn K mainGlobals x=some (some (.ref f))∧K.lookup f=some ⟨oc,od, .func (PySem.W.fnOf x x (cU s) (aI s) (af s) .none kV dc pm an cd ct),sl⟩∧PySem.W.codeIn K cd x=true∧PySem.W.keepIn K (.ref f)=true
theorem DF.mk{K:W.Frag}{x:Str}{s:Stmt}{f:Addr}{oc:Value}{od an:Option Addr}{sl:Array (Option Value)}{kV dc pm cd ct:Value}(a:PySem.W.nsIn K mainGlobals x=some (some (.ref f)))(l:K.lookup f=some ⟨oc,od, .func (PySem.W.fnOf x x (cU s) (aI s) (af s) .none kV dc pm an cd ct),sl⟩)(c:PySem.W.codeIn K cd x=true)(k:PySem.W.keepIn K (.ref f)=true):DF K x s:=⟨f,oc,od,an,sl,kV,dc,pm,cd,ct,a,l,c,k⟩
theorem DF.at{K:W.Frag}{x:Str}{s:Stmt}{h:Heap}{mg:Str→Option Value}(X:K.In h)(G:h.Ns mainGlobals mg)(d:DF K x s):∃f,bx K mg x s f:=by
 obtain⟨f,oc,od,an,sl,kV,dc,pm,cd,ct,a,l,c,k⟩:=d
 exact⟨f,PySem.W.mg_of X G a,_,tL (st:=s) l c k⟩
theorem all_mk{P:Program}{w:World}{K:W.Frag}{h:Heap}{mg:Str→Option Value}{fa:Addr}(X:K.In h)(G:h.Ns mainGlobals mg)(Ei:mg "law"=some (.ref fa))
 {fT:Addr}{qe js:Option Addr}{qy:Array (Option Value)}{qd jO jC j8 fQ jA:Value}
 {sL:Tok}
 {pq:Tok}
 {kx:Tok}
 (d_is_whole:DF K "is_whole" f9)
 (d_is_letter:DF K "is_letter" e9)
 (d_cells_of_row:DF K "cells_of_row" cE)
 (d_letter_of:DF K "letter_of" fc)
 (d_part_between:DF K "part_between" cF)
 (d_with_names:DF K "with_names" cX)
 (d_law_cell:DF K "_law_cell" f_)
 (d_is_row:DF K "is_row" gR)
 (d_is_cell:DF K "is_cell" iz)
 (d_need_letter:DF K "need_letter" dH)
 (d_all_cells:DF K "all_cells" e8)
 (d_lies_at:DF K "lies_at" iA)
 (d_law_drawn:DF K "_law_drawn" e_)
 (d_is_board:DF K "is_board" c_)
 (d_need_cell:DF K "need_cell" fe)
 (d_law_board:DF K "_law_board" dB)
 (d_law_cell_in:DF K "_law_cell_in" dG)
 (d_need_board:DF K "need_board" ei)
 (d_cells:DF K "cells" m_)
 (d_letter_at:DF K "letter_at" fb)
 (d_letters:DF K "letters" fx)
 (d_found_in:DF K "found_in" eh)
 (d_relettered:DF K "relettered" ej)
 (d_swapped:DF K "swapped" iB)
 (d_are_like:DF K "are_like" f7)
 (a_law_k85:PySem.W.nsIn K mainGlobals "law"=some (some (.ref fT)))(l_law_k85:K.lookup fT=some ⟨qd,qe, .func (PySem.W.fnOf "law" "law" (cU ag) (aI ag) (af ag) .none jO jC j8 js fQ jA),qy⟩)(c_law_k85:PySem.W.codeIn K fQ "law"=true)(k_law_k85:PySem.W.keepIn K (.ref fT)=true)
 (z_len:PySem.W.nsIn K mainGlobals "len"=some none)
 (z_isinstance:PySem.W.nsIn K mainGlobals "isinstance"=some none)
 (z_all:PySem.W.nsIn K mainGlobals "all"=some none)
 (z_range:PySem.W.nsIn K mainGlobals "range"=some none)
 (z_str:PySem.W.nsIn K mainGlobals "str"=some none)
 (z_int:PySem.W.nsIn K mainGlobals "int"=some none)
 (z_bool:PySem.W.nsIn K mainGlobals "bool"=some none)
 (z_tuple:PySem.W.nsIn K mainGlobals "tuple"=some none)
 (z_list:PySem.W.nsIn K mainGlobals "list"=some none)
 (z_sorted:PySem.W.nsIn K mainGlobals "sorted"=some none)
 (y_LETTERS:PySem.W.nsIn K mainGlobals "LETTERS"=some (some (.str "abcdef" sL)))
 (y_MOST_ROWS:PySem.W.nsIn K mainGlobals "MOST_ROWS"=some (some (.int 8 pq)))
 (y_MOST_COLUMNS:PySem.W.nsIn K mainGlobals "MOST_COLUMNS"=some (some (.int 8 kx))):
 ∃(cv:Nat→Value) (fd:FuncData),(∀(s:Shared) (u:Value),BindsTo s fd ⟨[u],[]⟩ [("_law_script",u)])∧∀base:Heap,K.In base→base.Ns mainGlobals mg→FnOk P w K mg base (fF P w cv) 7 fa fd ["_law_script"] (zA K cv 1 fo):=by
 have ea:=Ei.symm.trans (PySem.W.mg_of X G a_law_k85)
 cases ea
 refine⟨fun _=> .none,PySem.W.fnOf "law" "law" (cU ag) (aI ag) (af ag) .none jO jC j8 js fQ jA,fun s v=> .of_eq rfl,fun base KB GB=>?_⟩
 have B:Bl K mg base (fun _=> .none) (fun _=>mainGlobals) mainGlobals:=⟨PySem.W.mg_none_of X G z_len,PySem.W.mg_none_of X G z_isinstance,PySem.W.mg_none_of X G z_all,PySem.W.mg_none_of X G z_range,PySem.W.mg_none_of X G z_str,PySem.W.mg_none_of X G z_int,PySem.W.mg_none_of X G z_bool,PySem.W.mg_none_of X G z_tuple,PySem.W.mg_none_of X G z_list,PySem.W.mg_none_of X G z_sorted,⟨_,PySem.W.mg_of X G y_LETTERS⟩,⟨_,PySem.W.mg_of X G y_MOST_ROWS⟩,⟨_,PySem.W.mg_of X G y_MOST_COLUMNS⟩⟩
 have qb:=(DF.at X G d_is_whole).elim fun _ t=>oX (P:=P) (w:=w) B t
 have iO:=(DF.at X G d_is_letter).elim fun _ t=>mK (P:=P) (w:=w) B t
 have jW:=(DF.at X G d_cells_of_row).elim fun _ t=>jc (P:=P) (w:=w) B t
 have oQ:=(DF.at X G d_letter_of).elim fun _ t=>mO (P:=P) (w:=w) B t
 have jX:=(DF.at X G d_part_between).elim fun _ t=>jd (P:=P) (w:=w) B t
 have gB:=(DF.at X G d_with_names).elim fun _ t=>kQ (P:=P) (w:=w) B t
 have qc:=(DF.at X G d_law_cell).elim fun _ t=>oY (P:=P) (w:=w) B t
 have uv:=(DF.at X G d_is_row).elim fun _ t=>su (P:=P) (w:=w) B iO t
 have sk:=(DF.at X G d_is_cell).elim fun _ t=>qf (P:=P) (w:=w) B qb t
 have kN:=(DF.at X G d_need_letter).elim fun _ t=>jZ (P:=P) (w:=w) B iO t
 have iN:=(DF.at X G d_all_cells).elim fun _ t=>mJ (P:=P) (w:=w) B jW t
 have so:=(DF.at X G d_lies_at).elim fun _ t=>qh (P:=P) (w:=w) B jX t
 have iP:=(DF.at X G d_law_drawn).elim fun _ t=>mM (P:=P) (w:=w) B qc t
 have qa:=(DF.at X G d_is_board).elim fun _ t=>oW (P:=P) (w:=w) B uv t
 have oR:=(DF.at X G d_need_cell).elim fun _ t=>mP (P:=P) (w:=w) B sk t
 have oO:=(DF.at X G d_law_board).elim fun _ t=>mL (P:=P) (w:=w) B iP t
 have kM:=(DF.at X G d_law_cell_in).elim fun _ t=>jY (P:=P) (w:=w) B iP t
 have bU:=(DF.at X G d_need_board).elim fun _ t=>kO (P:=P) (w:=w) B qa t
 have v3:=(DF.at X G d_cells).elim fun _ t=>uw (P:=P) (w:=w) B bU iN t
 have oP:=(DF.at X G d_letter_at).elim fun _ t=>mN (P:=P) (w:=w) B bU oR oQ t
 have sm:=(DF.at X G d_letters).elim fun _ t=>qg (P:=P) (w:=w) B bU t
 have p_:=(DF.at X G d_found_in).elim fun _ t=>oV (P:=P) (w:=w) B bU iN so t
 have gA:=(DF.at X G d_relettered).elim fun _ t=>kP (P:=P) (w:=w) B bU gB t
 have sq:=(DF.at X G d_swapped).elim fun _ t=>qi (P:=P) (w:=w) B bU kN gB t
 have p9:=(DF.at X G d_are_like).elim fun _ t=>oU (P:=P) (w:=w) B gA t
 exact oT B oO gA v3 sq p9 p_ kM sm oP (tL (st:=ag) l_law_k85 c_law_k85 k_law_k85)
end K1
open PySem PySem.W PyProof.Rows
set_option maxHeartbeats 0 in
theorem PySem.Challenge.cw_cellpatches_k85_whole_letters_holds : PySem.Challenge.rw_cellpatches_k85_whole_letters.Holds := by
 w_on;o_law;k_head;(case hw=>w_witness2)
 k_fill
 refine L3.A0 (l:=PySem.Challenge.rw_cellpatches_k85_whole_letters) (k:=7) (n:=63) (x:="_law_script") (g:=K1.fo) rfl (by decide) rfl ⟨rfl,by decide,by decide⟩ (fun w h Y=>PySem.W.kIn_of Y) K1.t7 ?F
 case F=>
  intro w mg fa h KX G yk
  refine' K1.all_mk KX G yk ?d_is_whole ?d_is_letter ?d_cells_of_row ?d_letter_of ?d_part_between ?d_with_names ?d_law_cell ?d_is_row ?d_is_cell ?d_need_letter ?d_all_cells ?d_lies_at ?d_law_drawn ?d_is_board ?d_need_cell ?d_law_board ?d_law_cell_in ?d_need_board ?d_cells ?d_letter_at ?d_letters ?d_found_in ?d_relettered ?d_swapped ?d_are_like ?a_law_k85 ?l_law_k85 ?c_law_k85 ?k_law_k85 ?z_len ?z_isinstance ?z_all ?z_range ?z_str ?z_int ?z_bool ?z_tuple ?z_list ?z_sorted ?y_LETTERS ?y_MOST_ROWS ?y_MOST_COLUMNS
  (case d_is_whole=>(refine' K1.DF.mk ?a ?l ?c ?k;(case a=>k_is);(case l=>k_is);(case c=>k_is);(case k=>k_is)))
  (case d_is_letter=>(refine' K1.DF.mk ?a ?l ?c ?k;(case a=>k_is);(case l=>k_is);(case c=>k_is);(case k=>k_is)))
  (case d_cells_of_row=>(refine' K1.DF.mk ?a ?l ?c ?k;(case a=>k_is);(case l=>k_is);(case c=>k_is);(case k=>k_is)))
  (case d_letter_of=>(refine' K1.DF.mk ?a ?l ?c ?k;(case a=>k_is);(case l=>k_is);(case c=>k_is);(case k=>k_is)))
  (case d_part_between=>(refine' K1.DF.mk ?a ?l ?c ?k;(case a=>k_is);(case l=>k_is);(case c=>k_is);(case k=>k_is)))
  (case d_with_names=>(refine' K1.DF.mk ?a ?l ?c ?k;(case a=>k_is);(case l=>k_is);(case c=>k_is);(case k=>k_is)))
  (case d_law_cell=>(refine' K1.DF.mk ?a ?l ?c ?k;(case a=>k_is);(case l=>k_is);(case c=>k_is);(case k=>k_is)))
  (case d_is_row=>(refine' K1.DF.mk ?a ?l ?c ?k;(case a=>k_is);(case l=>k_is);(case c=>k_is);(case k=>k_is)))
  (case d_is_cell=>(refine' K1.DF.mk ?a ?l ?c ?k;(case a=>k_is);(case l=>k_is);(case c=>k_is);(case k=>k_is)))
  (case d_need_letter=>(refine' K1.DF.mk ?a ?l ?c ?k;(case a=>k_is);(case l=>k_is);(case c=>k_is);(case k=>k_is)))
  (case d_all_cells=>(refine' K1.DF.mk ?a ?l ?c ?k;(case a=>k_is);(case l=>k_is);(case c=>k_is);(case k=>k_is)))
  (case d_lies_at=>(refine' K1.DF.mk ?a ?l ?c ?k;(case a=>k_is);(case l=>k_is);(case c=>k_is);(case k=>k_is)))
  (case d_law_drawn=>(refine' K1.DF.mk ?a ?l ?c ?k;(case a=>k_is);(case l=>k_is);(case c=>k_is);(case k=>k_is)))
  (case d_is_board=>(refine' K1.DF.mk ?a ?l ?c ?k;(case a=>k_is);(case l=>k_is);(case c=>k_is);(case k=>k_is)))
  (case d_need_cell=>(refine' K1.DF.mk ?a ?l ?c ?k;(case a=>k_is);(case l=>k_is);(case c=>k_is);(case k=>k_is)))
  (case d_law_board=>(refine' K1.DF.mk ?a ?l ?c ?k;(case a=>k_is);(case l=>k_is);(case c=>k_is);(case k=>k_is)))
  (case d_law_cell_in=>(refine' K1.DF.mk ?a ?l ?c ?k;(case a=>k_is);(case l=>k_is);(case c=>k_is);(case k=>k_is)))
  (case d_need_board=>(refine' K1.DF.mk ?a ?l ?c ?k;(case a=>k_is);(case l=>k_is);(case c=>k_is);(case k=>k_is)))
  (case d_cells=>(refine' K1.DF.mk ?a ?l ?c ?k;(case a=>k_is);(case l=>k_is);(case c=>k_is);(case k=>k_is)))
  (case d_letter_at=>(refine' K1.DF.mk ?a ?l ?c ?k;(case a=>k_is);(case l=>k_is);(case c=>k_is);(case k=>k_is)))
  (case d_letters=>(refine' K1.DF.mk ?a ?l ?c ?k;(case a=>k_is);(case l=>k_is);(case c=>k_is);(case k=>k_is)))
  (case d_found_in=>(refine' K1.DF.mk ?a ?l ?c ?k;(case a=>k_is);(case l=>k_is);(case c=>k_is);(case k=>k_is)))
  (case d_relettered=>(refine' K1.DF.mk ?a ?l ?c ?k;(case a=>k_is);(case l=>k_is);(case c=>k_is);(case k=>k_is)))
  (case d_swapped=>(refine' K1.DF.mk ?a ?l ?c ?k;(case a=>k_is);(case l=>k_is);(case c=>k_is);(case k=>k_is)))
  (case d_are_like=>(refine' K1.DF.mk ?a ?l ?c ?k;(case a=>k_is);(case l=>k_is);(case c=>k_is);(case k=>k_is)))
  (case a_law_k85=>k_is)
  (case l_law_k85=>k_is)
  (case c_law_k85=>k_is)
  (case k_law_k85=>k_is)
  (case z_len=>k_is)
  (case z_isinstance=>k_is)
  (case z_all=>k_is)
  (case z_range=>k_is)
  (case z_str=>k_is)
  (case z_int=>k_is)
  (case z_bool=>k_is)
  (case z_tuple=>k_is)
  (case z_list=>k_is)
  (case z_sorted=>k_is)
  (case y_LETTERS=>k_is)
  (case y_MOST_ROWS=>k_is)
  (case y_MOST_COLUMNS=>k_is)
