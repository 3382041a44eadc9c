package tests

import (
	"fmt"
	"math"
	"slices"
	"strings"
	"testing"

	"loop.example/g00012/impl"
)

func TestFieldLimits(t *testing.T) {
	for i, pair := range [][2]int{
		{impl.MaxFields, 64}, {impl.MaxFieldName, 64}, {impl.MaxValue, 1024}, {impl.MaxTable, 4096}, {impl.EntryCost, 32}, {impl.MaxSection, 16384}, {impl.MaxRefs, 64}, {impl.StaticCount, 24},
	} {
		if pair[0] != pair[1] {
			t.Errorf("constant %d is %d, want %d", i, pair[0], pair[1])
		}
	}
}

func TestStaticFields(t *testing.T) {
	list := fixedAsked()
	if len(list) != impl.StaticCount {
		t.Fatalf("%d entries", len(list))
	}
	for i, want := range list {
		if got, code := impl.StaticField(i); got != want || code != impl.OK {
			t.Errorf("StaticField(%d) = %q %d, want %q", i, got, code, want)
		}
	}
	for _, i := range append(oddInts(), -1, -2, 24, 25) {
		if inRange(i, 0, 23) {
			continue
		}
		if got, code := impl.StaticField(i); got != (impl.Field{}) || code != impl.ErrTable {
			t.Errorf("StaticField(%d) = %q %d", i, got, code)
		}
	}
	for _, c := range []struct {
		i           int
		name, value string
	}{{0, ":path", "/"}, {1, ":method", "GET"}, {4, ":method", "DELETE"}, {5, ":authority", ""}, {6, ":scheme", "https"}, {14, ":status", "500"}, {15, "accept", "*/*"}, {18, "content-type", "application/json"}, {23, "priority", ""}} {
		if got, _ := impl.StaticField(c.i); got != (impl.Field{Name: c.name, Value: c.value}) {
			t.Errorf("StaticField(%d) = %q", c.i, got)
		}
	}
}

// pairsOf are fields: name, value, name, value, ..
func pairsOf(texts ...string) []impl.Field {
	var list []impl.Field
	for i := 0; i < len(texts); i += 2 {
		list = append(list, impl.Field{Name: texts[i], Value: texts[i+1]})
	}
	return list
}

func aField(name, value string) impl.Field { return impl.Field{Name: name, Value: value} }

// costing is a field that costs so much, from 33 to 1120; mark tells it from others.
func costing(cost int, mark byte) impl.Field {
	name := 1
	if cost > 33+1024 {
		name = cost - 32 - 1024
	}
	return impl.Field{Name: strings.Repeat(string(mark), name), Value: strings.Repeat(string(mark), cost-32-name)}
}

func tableOf(most, limit, added int, entries ...impl.Field) impl.Table {
	return impl.Table{Most: most, Cap: limit, Added: added, Entries: entries}
}

func sameTable(a, b impl.Table) bool {
	return a.Most == b.Most && a.Cap == b.Cap && a.Added == b.Added && slices.Equal(a.Entries, b.Entries)
}

// toldTable is short, as a table may have thousands of bytes.
func toldTable(t impl.Table) string {
	var costs []int
	for _, f := range t.Entries[:min(len(t.Entries), 20)] {
		costs = append(costs, costAsked(f))
	}
	return fmt.Sprintf("Most %d, Cap %d, Added %d, %d entries that cost %v..", t.Most, t.Cap, t.Added, len(t.Entries), costs)
}

func toldField(f impl.Field) string {
	return fmt.Sprintf("%.40q %.40q (%d and %d bytes)", f.Name, f.Value, len(f.Name), len(f.Value))
}

func checkTableOK(t *testing.T, table impl.Table, want bool) {
	t.Helper()
	if got := impl.TableOK(table); got != want {
		t.Errorf("TableOK = %v, want %v of %s", got, want, toldTable(table))
	}
	if asked := tableOKAsked(table); asked != want {
		t.Errorf("TableOK: asked is %v, want %v of %s", asked, want, toldTable(table))
	}
}

func checkCap(t *testing.T, table impl.Table, n int, want impl.Table, code int) {
	t.Helper()
	got, gotCode := impl.TableCap(table, n)
	if gotCode != code || !sameTable(got, want) {
		t.Errorf("TableCap(.., %d) = %s, code %d, want %s, code %d, of %s", n, toldTable(got), gotCode, toldTable(want), code, toldTable(table))
	}
}

func checkCapAsked(t *testing.T, table impl.Table, n int) {
	t.Helper()
	want, code := tableCapAsked(table, n)
	checkCap(t, table, n, want, code)
}

func checkTableAdd(t *testing.T, table impl.Table, f impl.Field, want impl.Table, code int) {
	t.Helper()
	got, gotCode := impl.TableAdd(table, f)
	if gotCode != code || !sameTable(got, want) {
		t.Errorf("TableAdd(.., %s) = %s, code %d, want %s, code %d, of %s", toldField(f), toldTable(got), gotCode, toldTable(want), code, toldTable(table))
	}
}

func checkTableAddAsked(t *testing.T, table impl.Table, f impl.Field) int {
	t.Helper()
	want, code := tableAddAsked(table, f)
	checkTableAdd(t, table, f, want, code)
	return code
}

func checkEntry(t *testing.T, table impl.Table, n int, want impl.Field, code int) {
	t.Helper()
	if got, gotCode := impl.TableGet(table, n); gotCode != code || got != want {
		t.Errorf("TableGet(.., %d) = %s %d, want %s %d, of %s", n, toldField(got), gotCode, toldField(want), code, toldTable(table))
	}
}

func checkEntryAsked(t *testing.T, table impl.Table, n int) {
	t.Helper()
	want, code := tableGetAsked(table, n)
	checkEntry(t, table, n, want, code)
}

// checkTableAsked asks all that can be asked of a table.
func checkTableAsked(t *testing.T, table impl.Table) {
	t.Helper()
	checkTableOK(t, table, tableOKAsked(table))
	cost := costAsked(table.Entries...)
	for _, n := range []int{0, 1, 32, 33, 34, cost - 1, cost, cost + 1, table.Cap - 1, table.Cap, table.Cap + 1, table.Most - 1, table.Most, table.Most + 1, 4096, 4097, -1, math.MinInt, math.MaxInt} {
		checkCapAsked(t, table, n)
	}
	for _, c := range []int{33, 34, table.Cap - cost - 1, table.Cap - cost, table.Cap - cost + 1, table.Cap - 1, table.Cap, table.Cap + 1} {
		if inRange(c, 33, 1120) {
			checkTableAddAsked(t, table, costing(c, 'n'))
		}
	}
	checkTableAddAsked(t, table, aField("A", ""))
	for _, n := range []int{-1, 0, 1, table.Added - 2, table.Added - 1, table.Added, table.Added + 1, oldestOf(table) - 1, oldestOf(table), oldestOf(table) + 1, maxVar, maxVar + 1, math.MinInt, math.MaxInt} {
		checkEntryAsked(t, table, n)
	}
}

// plainTables are valid.
func plainTables() []impl.Table {
	three := []impl.Field{costing(40, 'a'), costing(50, 'b'), costing(33, 'c')}
	var many []impl.Field
	for i := range 124 {
		many = append(many, aField(string(nameBytes[i%len(nameBytes)]), ""))
	}
	return []impl.Table{
		{}, tableOf(4096, 0, 0), tableOf(4096, 4096, 0), tableOf(1, 1, 5), tableOf(200, 100, maxVar-1),
		tableOf(33, 33, 1, costing(33, 'a')), tableOf(100, 33, 9, costing(33, 'a')), tableOf(100, 34, maxVar-1, costing(33, 'a')),
		tableOf(123, 123, 3, three...), tableOf(4096, 123, 4, three...), tableOf(4096, 124, 1000, three...), tableOf(4096, 4096, maxVar-2, three...), tableOf(200, 150, maxVar-1, three...),
		tableOf(4096, 4092, 124, many...), tableOf(4096, 4096, 125, many...), tableOf(4096, 4096, maxVar-2, many...),
		tableOf(4096, 4096, 3, costing(1120, 'a'), costing(1120, 'b'), costing(1120, 'c')),
		tableOf(4096, 4096, 7, costing(1120, 'a'), costing(1120, 'b'), costing(1120, 'c'), costing(736, 'd')),
		tableOf(300, 200, 4, aField("a", "1"), aField("a", "1"), aField("b", ""), aField("a", "1")),
		tableOf(300, 300, 2, aField("~!", "\xff\xc3"), aField(":status", "999 ")),
	}
}

func TestTablesPlain(t *testing.T) {
	for _, table := range plainTables() {
		checkTableOK(t, table, true)
		checkTableAsked(t, table)
	}
}

// wrongTables are those that a part of a valid one is changed of.
func wrongTables() []impl.Table {
	base := tableOf(200, 123, 5, costing(40, 'a'), costing(50, 'b'), costing(33, 'c'))
	var list []impl.Table
	change := func(change func(table *impl.Table)) {
		table := base
		table.Entries = slices.Clone(base.Entries)
		change(&table)
		list = append(list, table)
	}
	for _, n := range []int{-1, math.MinInt, math.MaxInt} {
		change(func(table *impl.Table) { table.Most = n })
		change(func(table *impl.Table) { table.Cap = n })
		change(func(table *impl.Table) { table.Added = n })
		change(func(table *impl.Table) { table.Most, table.Cap = n, n })
	}
	for _, f := range []impl.Field{{}, {Value: "x"}, {Name: "A"}, {Name: "a b"}, {Name: "a", Value: "\n"}} {
		change(func(table *impl.Table) { table.Entries[0] = f })
		change(func(table *impl.Table) { table.Entries[2] = f })
	}
	change(func(table *impl.Table) { table.Most = 122 })
	change(func(table *impl.Table) { table.Most = 4097 })
	change(func(table *impl.Table) { table.Most, table.Cap = 4097, 4097 })
	change(func(table *impl.Table) { table.Cap = 201 })
	change(func(table *impl.Table) { table.Cap = 122 })
	change(func(table *impl.Table) { table.Added = 2 })
	change(func(table *impl.Table) { table.Added = maxVar })
	change(func(table *impl.Table) { table.Added = maxVar + 1 })
	change(func(table *impl.Table) { table.Entries[2] = costing(34, 'c') })
	change(func(table *impl.Table) { table.Entries = make([]impl.Field, 5) })
	return append(list, impl.Table{Added: -1}, impl.Table{Cap: 1}, impl.Table{Most: -1}, impl.Table{Added: maxVar}, tableOf(4096, 4096, 200000, make([]impl.Field, 100000)...),
		tableOf(4096, 4096, 2, aField(strings.Repeat("a", 65), ""), aField("a", "")), tableOf(4096, 4096, 2, aField("a", strings.Repeat("a", 1025)), aField("a", "")))
}

func TestTablesWrong(t *testing.T) {
	for _, table := range wrongTables() {
		checkTableOK(t, table, false)
		checkTableAsked(t, table)
		checkCap(t, table, -1, impl.Table{}, impl.ErrBad)
		checkCap(t, table, 0, impl.Table{}, impl.ErrBad)
		checkTableAdd(t, table, aField("a", ""), impl.Table{}, impl.ErrBad)
		checkTableAdd(t, table, costing(1120, 'a'), impl.Table{}, impl.ErrBad)
		checkEntry(t, table, 0, impl.Field{}, impl.ErrBad)
		checkEntry(t, table, -1, impl.Field{}, impl.ErrBad)
	}
}

func TestTableEdges(t *testing.T) {
	a := costing(33, 'a')
	for _, c := range []struct {
		table impl.Table
		ok    bool
	}{
		{tableOf(0, 0, 0), true}, {tableOf(-1, -1, 0), false}, {tableOf(0, -1, 0), false}, {tableOf(0, 1, 0), false},
		{tableOf(4096, 4096, 0), true}, {tableOf(4096, 4097, 0), false}, {tableOf(4097, 4096, 0), false}, {tableOf(4097, 0, 0), false},
		{tableOf(40, 32, 1, a), false}, {tableOf(40, 33, 1, a), true}, {tableOf(40, 34, 1, a), true},
		{tableOf(40, 33, 0, a), false}, {tableOf(40, 33, 2, a), true}, {tableOf(40, 33, maxVar-2, a), true}, {tableOf(40, 33, maxVar-1, a), true}, {tableOf(40, 33, maxVar, a), false},
		{tableOf(40, 33, -1), false}, {tableOf(66, 66, 2, a, a), true}, {tableOf(66, 65, 2, a, a), false}, {tableOf(66, 66, 1, a, a), false},
	} {
		checkTableOK(t, c.table, c.ok)
		checkTableAsked(t, c.table)
	}
}

func TestTableCapEdges(t *testing.T) {
	a, b, c := costing(40, 'a'), costing(50, 'b'), costing(33, 'c')
	table := tableOf(200, 150, 7, a, b, c)
	for n := -3; n <= 210; n++ {
		checkCapAsked(t, table, n)
	}
	checkCap(t, table, 200, tableOf(200, 200, 7, a, b, c), impl.OK)
	checkCap(t, table, 201, impl.Table{}, impl.ErrTable)
	checkCap(t, table, -1, impl.Table{}, impl.ErrTable)
	checkCap(t, table, 123, tableOf(200, 123, 7, a, b, c), impl.OK)
	checkCap(t, table, 122, tableOf(200, 122, 7, b, c), impl.OK)
	checkCap(t, table, 83, tableOf(200, 83, 7, b, c), impl.OK)
	checkCap(t, table, 82, tableOf(200, 82, 7, c), impl.OK)
	checkCap(t, table, 33, tableOf(200, 33, 7, c), impl.OK)
	checkCap(t, table, 32, tableOf(200, 32, 7), impl.OK)
	checkCap(t, table, 0, tableOf(200, 0, 7), impl.OK)
}

func TestTableAddEdges(t *testing.T) {
	a, b, c := costing(40, 'a'), costing(50, 'b'), costing(33, 'c')
	table := tableOf(200, 160, 7, a, b, c)
	for _, x := range []struct {
		cost int
		left []impl.Field
	}{{33, []impl.Field{a, b, c}}, {37, []impl.Field{a, b, c}}, {38, []impl.Field{b, c}}, {77, []impl.Field{b, c}}, {78, []impl.Field{c}}, {127, []impl.Field{c}}, {128, nil}, {160, nil}} {
		f := costing(x.cost, 'n')
		checkTableAdd(t, table, f, tableOf(200, 160, 8, append(slices.Clone(x.left), f)...), impl.OK)
	}
	checkTableAdd(t, table, costing(161, 'n'), impl.Table{}, impl.ErrTable)
	checkTableAdd(t, table, costing(201, 'n'), impl.Table{}, impl.ErrTable)
	checkTableAdd(t, table, aField("N", ""), impl.Table{}, impl.ErrBad)
	checkTableAdd(t, table, aField("N", strings.Repeat("n", 500)), impl.Table{}, impl.ErrBad)
	last := tableOf(200, 160, maxVar-2, a)
	checkTableAdd(t, last, b, tableOf(200, 160, maxVar-1, a, b), impl.OK)
	last.Added = maxVar - 1
	checkTableAdd(t, last, b, impl.Table{}, impl.ErrBad)
	checkTableAdd(t, last, costing(161, 'n'), impl.Table{}, impl.ErrBad)
	checkTableAdd(t, impl.Table{}, c, impl.Table{}, impl.ErrTable)
}

func TestTableGetEdges(t *testing.T) {
	a, b, c := costing(40, 'a'), costing(50, 'b'), costing(33, 'c')
	for _, added := range []int{3, 4, 124, 125, 1000, maxVar - 1} {
		table := tableOf(200, 160, added, a, b, c)
		checkEntry(t, table, added-4, impl.Field{}, impl.ErrTable)
		checkEntry(t, table, added-3, a, impl.OK)
		checkEntry(t, table, added-2, b, impl.OK)
		checkEntry(t, table, added-1, c, impl.OK)
		checkEntry(t, table, added, impl.Field{}, impl.ErrTable)
		for _, n := range []int{-1, math.MinInt, math.MaxInt, maxVar} {
			checkEntry(t, table, n, impl.Field{}, impl.ErrTable)
		}
	}
	checkEntry(t, impl.Table{}, 0, impl.Field{}, impl.ErrTable)
}

// drawnField is one of few, so that the same come again.
func drawnField(more *numbers) impl.Field {
	names := []string{"a", "b", "cc", "etag", ":path", ":method", ":status", "content-type", "x-long-name-of-a-field"}
	values := []string{"", "1", "22", "GET", "200", "text/plain", "/", strings.Repeat("v", 60)}
	f := aField(names[more.below(len(names))], values[more.below(len(values))])
	if more.below(6) == 0 {
		f.Value = strings.Repeat("w", more.below(200))
	}
	return f
}

// Of a table just the oldest entries go, and no more than must.
func checkGone(t *testing.T, was, is impl.Table, added ...impl.Field) {
	t.Helper()
	all := append(slices.Clone(was.Entries), added...)
	gone := len(all) - len(is.Entries)
	if gone < 0 || !slices.Equal(all[gone:], is.Entries) || costAsked(is.Entries...) > is.Cap {
		t.Fatalf("%s became %s", toldTable(was), toldTable(is))
	}
	if gone > 0 && costAsked(all[gone-1:]...) <= is.Cap {
		t.Fatalf("%s became %s: one more would have fitted", toldTable(was), toldTable(is))
	}
	if is.Added != was.Added+len(added) || is.Most != was.Most || !impl.TableOK(is) {
		t.Fatalf("%s became %s", toldTable(was), toldTable(is))
	}
}

func TestP20TablesDrawn(t *testing.T) {
	more := numbers(16)
	for range 300 {
		table := impl.Table{Most: more.below(4097)}
		if more.below(2) == 0 {
			table.Most = 200 + more.below(300)
		}
		table.Added = []int{0, 5, 120, maxVar - 100}[more.below(4)]
		table.Cap = table.Most
		for range 150 {
			was := table
			if more.below(15) == 0 {
				n := more.below(table.Most + 2)
				checkCapAsked(t, table, n)
				if behind, code := impl.TableCap(table, n); code == impl.OK {
					table = behind
					checkGone(t, was, table)
				}
				continue
			}
			f := drawnField(&more)
			if checkTableAddAsked(t, table, f) == impl.OK {
				table, _ = impl.TableAdd(table, f)
				checkGone(t, was, table, f)
			}
			checkEntryAsked(t, table, oldestOf(table)-1+more.below(len(table.Entries)+2))
		}
	}
}

// A table that has as many entries as one can have goes round and round.
func TestTableFullOfShortest(t *testing.T) {
	table := tableOf(4096, 4096, 3)
	for i := range 600 {
		f := aField(string(nameBytes[i%len(nameBytes)]), "")
		was := table
		table, _ = impl.TableAdd(table, f)
		checkGone(t, was, table, f)
		if len(table.Entries) != min(i+1, 124) {
			t.Fatalf("%d entries behind %d", len(table.Entries), i+1)
		}
		checkEntry(t, table, table.Added-1, f, impl.OK)
		checkEntry(t, table, oldestOf(table), table.Entries[0], impl.OK)
	}
}
