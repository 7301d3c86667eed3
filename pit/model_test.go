package pit_test

import (
	"cmp"
	"math/rand/v2"
	"reflect"
	"slices"
	"testing"

	"pit/api"
	"pit/pit"
)

// model does what books that gather do, in the plainest way: one list of all orders, as they came to rest.
type model struct{ orders []api.Order }

func outside(n, most int) bool { return n < 1 || n > most }

func (m *model) at(id int) int {
	return slices.IndexFunc(m.orders, func(o api.Order) bool { return o.Id == id })
}

// of tells the orders of a book and side, the best first.
func (m *model) of(book, side int) []api.Order {
	var out []api.Order
	for _, o := range m.orders {
		if o.Book == book && o.Side == side {
			out = append(out, o)
		}
	}
	slices.SortStableFunc(out, func(a, b api.Order) int {
		if side == api.Buy {
			return cmp.Compare(b.Price, a.Price)
		}
		return cmp.Compare(a.Price, b.Price)
	})
	return out
}

func (m *model) enter(c api.Command) []api.Event {
	switch {
	case outside(c.Id, 1000000000), outside(c.Trader, 1000), outside(c.Book, 8), outside(c.Side, 2), outside(c.Kind, 5),
		c.Kind != 2 && outside(c.Price, 1000000), outside(c.Count, 1000000):
		return []api.Event{refused(c.Id, api.ErrNumber)}
	case m.at(c.Id) >= 0:
		return []api.Event{refused(c.Id, api.ErrKnown)}
	case c.Kind != api.Rest:
		return []api.Event{refused(c.Id, api.ErrPhase)}
	case len(m.of(c.Book, 1))+len(m.of(c.Book, 2)) == 200:
		return []api.Event{refused(c.Id, api.ErrFull)}
	}
	m.orders = append(m.orders, api.Order{Id: c.Id, Trader: c.Trader, Book: c.Book, Side: c.Side, Price: c.Price, Open: c.Count})
	return []api.Event{taken(c.Id, c.Count), rests(c.Id, c.Price, c.Count)}
}

func (m *model) leave(at int) api.Event {
	o := m.orders[at]
	m.orders = slices.Delete(m.orders, at, at+1)
	return gone(o.Id, o.Open)
}

func (m *model) alter(c api.Command) []api.Event {
	if outside(c.Id, 1000000000) || outside(c.Trader, 1000) || c.What == api.Change && (outside(c.Price, 1000000) || outside(c.Count, 1000000)) {
		return []api.Event{refused(c.Id, api.ErrNumber)}
	}
	at := m.at(c.Id)
	if at < 0 || m.orders[at].Trader != c.Trader {
		return []api.Event{refused(c.Id, api.ErrNone)}
	}
	o := m.orders[at]
	if c.What == api.Change && c.Price == o.Price && c.Count <= o.Open {
		m.orders[at].Open = c.Count
		return []api.Event{rests(c.Id, c.Price, c.Count)}
	}
	out := []api.Event{m.leave(at)}
	if c.What == api.Change {
		out = append(out, m.enter(order(o.Id, o.Trader, o.Book, o.Side, c.Price, c.Count))...)
	}
	return out
}

func (m *model) leaveAll(c api.Command) []api.Event {
	if outside(c.Trader, 1000) {
		return []api.Event{refused(0, api.ErrNumber)}
	}
	var out []api.Event
	for book := 1; book <= 8; book++ {
		for _, o := range append(m.of(book, 1), m.of(book, 2)...) {
			if o.Trader == c.Trader {
				out = append(out, m.leave(m.at(o.Id)))
			}
		}
	}
	return out
}

func (m *model) do(c api.Command) []api.Event {
	switch c.What {
	case api.New:
		return m.enter(c)
	case api.Cancel, api.Change:
		return m.alter(c)
	case api.CancelAll:
		return m.leaveAll(c)
	}
	return []api.Event{refused(0, api.ErrCommand)}
}

func (m *model) levels(book, side int) []api.Level {
	var out []api.Level
	for _, o := range m.of(book, side) {
		if len(out) == 0 || out[len(out)-1].Price != o.Price {
			out = append(out, api.Level{Price: o.Price})
		}
		out[len(out)-1].Count += o.Open
		out[len(out)-1].Orders++
	}
	return out
}

func (m *model) view() seen {
	var s seen
	for book := 1; book <= 8; book++ {
		s.states = append(s.states, api.State{Phase: api.Gathering, Buys: len(m.of(book, 1)), Sells: len(m.of(book, 2))})
		s.levels = append(s.levels, m.levels(book, 1), m.levels(book, 2))
	}
	for _, id := range append(numbers(1, 300), 1000000000) {
		var o api.Order
		if at := m.at(id); at >= 0 {
			o = m.orders[at]
		}
		s.orders = append(s.orders, o)
	}
	return s
}

func numbers(from, to int) []int {
	var out []int
	for n := from; n <= to; n++ {
		out = append(out, n)
	}
	return out
}

// some: a command that often hits what rests, and now and then is wrong in one number.
func some(r *rand.Rand, books int) api.Command {
	what := []int{api.New, api.New, api.New, api.New, api.Cancel, api.Change, api.Change}[r.IntN(7)]
	if r.IntN(200) == 0 {
		what = api.CancelAll
	}
	c := api.Command{What: what, Id: 1 + r.IntN(300), Trader: 1 + r.IntN(2), Book: 1 + r.IntN(books), Side: 1 + r.IntN(2),
		Kind: api.Rest, Price: 100 + r.IntN(4), Count: 1 + r.IntN(5)}
	switch r.IntN(20) {
	case 0:
		*fields(&c)[1+r.IntN(7)] = edges[r.IntN(len(edges))]
	case 1:
		c.Kind = 1 + r.IntN(5)
	case 2:
		c.What = []int{-1, 0, 7, 1 << 40}[r.IntN(4)]
	}
	return c
}

func TestLikeTheModel(t *testing.T) {
	for seed := range uint64(20) {
		r := rand.New(rand.NewPCG(seed, 1))
		p, m := pit.New(), &model{}
		for i := range 2000 {
			c := some(r, 1+int(seed)%api.MaxBooks) // with one book alone it gets full
			if got, want := p.Do(c), m.do(c); !slices.Equal(got, want) {
				t.Fatalf("seed %d, command %d: Do(%+v) = %+v, want %+v", seed, i, c, got, want)
			}
			if i%50 != 0 {
				continue
			}
			if got, want := view(p), m.view(); !reflect.DeepEqual(got, want) {
				t.Fatalf("seed %d, after command %d: %+v, want %+v", seed, i, got, want)
			}
		}
	}
}
