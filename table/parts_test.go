package table

import (
	"testing"

	"unison/api"
)

// pairs is a table whose key is a number and a text, and which is parted by the text.
func pairs() api.Table {
	return api.Table{
		Name:    "p",
		Columns: []api.Column{{Name: "a", Type: api.Int, NotNull: true}, {Name: "b", Type: api.Text, NotNull: true}},
		Key:     []int{0, 1},
		Part:    1,
		Indexes: []api.Index{{Name: "x", Columns: []int{1}}},
	}
}

// What no answer tells: each row is in one partition, which hangs on the value in Part alone; and all partitions are used.
func TestS1RowsAreParted(t *testing.T) {
	for parts := 1; parts <= api.MaxPartitions; parts++ {
		x := newRows(pairs(), parts)
		const texts, numbers = 26 * 26, 3
		for i := range texts * numbers {
			x.put([]api.Value{{Kind: api.Int, Int: i}, {Kind: api.Text, Text: nth(i % texts)}})
		}
		homes := map[string]int{}
		for at, p := range x.parts {
			if p.tree(byKey).Len() == 0 || p.tree(byKey).Len() != p.tree(0).Len() {
				t.Errorf("partition %d of %d has %d rows, %d in the index", at, parts, p.tree(byKey).Len(), p.tree(0).Len())
			}
			for _, pair := range p.list(byKey, "", "") {
				b := decode(pair.Val)[1].Text
				if home, met := homes[b]; met && home != at {
					t.Errorf("rows of %q are in the partitions %d and %d", b, home, at)
				}
				homes[b] = at
			}
		}
		if len(homes) != texts {
			t.Errorf("%d texts; want %d", len(homes), texts)
		}
	}
}

func nth(i int) string { return string([]byte{'a' + byte(i/26), 'a' + byte(i%26)}) }

// Where the value in Part is known, its partition alone is asked; else all are, each once, and none more when enough is known.
func TestS1WhichPartitionsAreAsked(t *testing.T) {
	x := newRows(pairs(), 7)
	one, two := api.Value{Kind: api.Int, Int: 1}, api.Value{Kind: api.Text, Text: "two"}
	count := func(columns []int, l ...api.Value) int {
		n := 0
		for range x.asked(columns, l) {
			n++
		}
		return n
	}
	for i, c := range []struct{ got, want int }{
		{count(nil), 7},
		{count([]int{0}, one), 7},
		{count([]int{0, 1}, one), 7},
		{count([]int{0, 1}), 7},
		{count([]int{1}, two), 1},
		{count([]int{0, 1}, one, two), 1},
		{count([]int{1, 0}, two), 1},
	} {
		if c.got != c.want {
			t.Errorf("%d: %d are asked; want %d", i, c.got, c.want)
		}
	}
	n := 0
	for range x.asked(nil, nil) {
		if n++; n == 3 {
			break
		}
	}
	if n != 3 {
		t.Errorf("%d were asked; want 3", n)
	}
}
