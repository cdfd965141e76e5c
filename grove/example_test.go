package grove_test

import (
	"fmt"

	"grove/api"
	"grove/grove"
)

func Example() {
	g := grove.New()
	list, _ := g.Make(api.Element, "list")
	one, _ := g.Make(api.Element, "item")
	two, _ := g.Make(api.Text, "the second")
	g.Put(list, one, 0)
	g.Put(list, two, one)
	kids, _ := g.Kids(list)
	fmt.Println(kids)
	fmt.Println(g.Put(one, list, 0) == api.ErrPlace)
	g.Take(two)
	kids, _ = g.Kids(list)
	fmt.Println(kids)
	// Output:
	// [3 2]
	// true
	// [2]
}

func ExampleGrove_Watch() {
	g := grove.New()
	list, _ := g.Make(api.Element, "list")
	one, _ := g.Make(api.Element, "item")
	two, _ := g.Make(api.Element, "item")
	items, _ := g.Watch(list, api.ByTag, "item")
	g.Put(list, one, 0)
	fmt.Println(g.Len(items))
	g.Put(list, two, one)
	fmt.Println(g.Len(items))
	fmt.Println(g.Item(items, 0))
	g.Set(one, "id", "first")
	fmt.Println(g.Named(items, "first"))
	fmt.Println(g.ById(list, "first"))
	// Output:
	// 1 0
	// 2 0
	// 3 0
	// 2 0
	// 2 0
}

func ExampleGrove_Iter() {
	g := grove.New()
	list, _ := g.Make(api.Element, "list")
	one, _ := g.Make(api.Element, "item")
	two, _ := g.Make(api.Text, "the second")
	g.Put(list, one, 0)
	g.Put(list, two, 0)
	way, _ := g.Iter(list, api.MaxShow, []api.Rule{{Name: "list", Verdict: api.Skip}})
	fmt.Println(g.Step(way, false))
	g.Take(one)
	fmt.Println(g.At(way))
	fmt.Println(g.Step(way, false))
	fmt.Println(g.Step(way, false))
	fmt.Println(g.Step(way, true))
	// Output:
	// 2 0
	// 1 false 0
	// 3 0
	// 0 0
	// 3 0
}

func ExampleGrove_Walker() {
	g := grove.New()
	list, _ := g.Make(api.Element, "list")
	group, _ := g.Make(api.Element, "group")
	one, _ := g.Make(api.Element, "item")
	two, _ := g.Make(api.Element, "item")
	g.Put(list, group, 0)
	g.Put(group, one, 0)
	g.Put(list, two, 0)
	w, _ := g.Walker(list, api.MaxShow, []api.Rule{{Name: "group", Verdict: api.Skip}})
	fmt.Println(g.Move(w, api.ToFirst))
	fmt.Println(g.Move(w, api.ToNext))
	fmt.Println(g.Move(w, api.ToNext))
	g.Take(two)
	fmt.Println(g.Here(w))
	fmt.Println(g.Move(w, api.ToParent))
	fmt.Println(g.Go(w, one))
	fmt.Println(g.Move(w, api.ToParent))
	// Output:
	// 3 0
	// 4 0
	// 0 0
	// 4 0
	// 0 0
	// 0
	// 1 0
}
