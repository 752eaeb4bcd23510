package part_test

import (
	"slices"
	"sort"
	"strconv"
	"strings"

	"garnet/api"
)

// What a micro-step was, and what a partition is, by the numbers that the
// chapter gives them.
const (
	idle       = 0
	applied    = 1
	answered   = 2
	redirected = 3
	claimed    = 4
	begun      = 5

	open    = 0
	closing = 1
	frozen  = 2
	gone    = 3
)

// The kinds of requests, by the numbers that DOC.md gives them.
const (
	get    = 1
	put    = 2
	del    = 3
	absent = 4
	swap   = 5
	scan   = 6
)

// States of a slot, in the model.
const (
	isEmpty = iota
	isPosted
	isClaimed
	isDone
	isRedirected
)

// span is a range, told by texts: from one key on, up to another one, or, of
// none, without an end.
type span struct{ from, to string }

// mayBe, has and common are chapter 5's words of a range, of a key in it, and
// of what is in two.
func (s span) mayBe() bool {
	return len(s.from) <= 16 && len(s.to) <= 16 && (s.to == "" || s.to > s.from)
}

func (s span) has(k string) bool { return k >= s.from && (s.to == "" || s.to > k) }

func (s span) common(o span) (span, bool) {
	both := span{max(s.from, o.from), s.to}
	if s.to == "" || o.to != "" && o.to < s.to {
		both.to = o.to
	}
	return both, s.mayBe() && o.mayBe() && both.mayBe()
}

// ask is a request, told by texts.
type ask struct {
	client, seq, kind int
	key, val, old, to string
	limit             int
}

// mayBe is chapter 12's word of a request.
func (a ask) mayBe() bool {
	if a.client < 0 || a.seq < 0 || len(a.val) > 32 || len(a.old) > 32 {
		return false
	}
	if a.kind == scan {
		return a.span().mayBe() && a.limit >= 1 && a.limit <= 100
	}
	return a.kind >= get && a.kind <= swap && len(a.key) >= 1 && len(a.key) <= 16
}

func (a ask) span() span { return span{a.key, a.to} }

// reply is an answer, told by texts; its rows are one.
type reply struct {
	code  int
	found bool
	val   string
	rows  string
	stamp uint64
}

// deed is a request, and what it came to.
type deed struct {
	ask   ask
	reply reply
}

// rowText is pairs as one text.
func rowText(keys []string, val func(k string) string) string {
	var s strings.Builder
	for _, k := range keys {
		s.WriteString(strconv.Quote(k) + "=" + strconv.Quote(val(k)) + " ")
	}
	return s.String()
}

// sheet is pairs, by their keys.
type sheet map[string]string

func (s sheet) keys(in span) []string {
	var l []string
	for k := range s {
		if in.has(k) {
			l = append(l, k)
		}
	}
	sort.Strings(l)
	return l
}

func (s sheet) text(in span) string {
	return rowText(s.keys(in), func(k string) string { return s[k] })
}

// do is chapter 12's table of a request that is no scan, where so many pairs
// may be.
func (s sheet) do(a ask, most int) reply {
	v, is := s[a.key]
	was := reply{found: is, val: v}
	switch {
	case a.kind == del:
		delete(s, a.key)
	case a.kind == swap && !is:
		return reply{code: int(api.ErrNone)}
	case a.kind == swap && v != a.old:
		was.code = int(api.ErrState)
	case a.kind == get || a.kind == absent && is:
	case !is && len(s) >= most:
		return reply{code: int(api.ErrFull)}
	default:
		s[a.key] = a.val
	}
	return was
}

// place is a slot.
type place struct {
	state int
	ask   ask
	reply reply
}

// item is one request of a batch, with its marks.
type item struct {
	slot     int
	ask      ask
	applied  bool
	answered bool
	reply    reply
}

// model is the chapter once more: a partition of plain data.
type model struct {
	id     int
	span   span
	pairs  sheet
	slots  []place
	holder int // -1 of none
	until  int64
	epoch  uint64
	batch  []item // in the batch's order; none, if the journal is empty
	state  int
	stamp  uint64
	config api.Config
}

func newModel(id int, s span, c api.Config) (*model, error) {
	switch {
	case id < 0, !s.mayBe(), c.Slots < 1, c.Slots > 32, c.Order < 3, c.Order > 16,
		c.Most < 1, c.Most > 1000, c.Long < 1, c.Long > 1000:
		return nil, api.ErrArg
	}
	return &model{id: id, span: s, pairs: sheet{}, slots: make([]place, c.Slots), holder: -1, config: c}, nil
}

func (m *model) fits(a ask) bool {
	if a.kind == scan {
		_, is := m.span.common(a.span())
		return is
	}
	return m.span.has(a.key)
}

// first is the first slot of a state for which more holds, or -1.
func (m *model) first(state int, more func(a ask) bool) int {
	return slices.IndexFunc(m.slots, func(p place) bool { return p.state == state && more(p.ask) })
}

func whatever(ask) bool { return true }

func (m *model) quiet() bool { return len(m.batch) == 0 && m.first(isClaimed, whatever) < 0 }

func (m *model) work() bool { return !m.quiet() || m.first(isPosted, whatever) >= 0 }

func (m *model) post(a ask) (int, error) {
	switch {
	case m.state == gone:
		return 0, api.ErrGone
	case !a.mayBe():
		return 0, api.ErrArg
	case !m.fits(a):
		return 0, api.ErrRange
	}
	for _, p := range m.slots {
		if p.state != isEmpty && p.ask.client == a.client {
			return 0, api.ErrTwice
		}
	}
	i := m.first(isEmpty, whatever)
	if i < 0 {
		return 0, api.ErrFull
	}
	m.slots[i] = place{state: isPosted, ask: a}
	return i, nil
}

func (m *model) take(i, client, seq int) (reply, error) {
	if i < 0 || i >= len(m.slots) {
		return reply{}, api.ErrRange
	}
	p := m.slots[i]
	switch {
	case p.state == isEmpty, p.ask.client != client, p.ask.seq != seq:
		return reply{}, api.ErrNone
	case p.state == isPosted, p.state == isClaimed:
		return reply{}, api.ErrState
	}
	m.slots[i] = place{}
	if p.state == isRedirected {
		return reply{}, api.ErrStale
	}
	return p.reply, nil
}

// lease is chapter 16's Take.
func (m *model) lease(w int, now int64) error {
	if w < 0 || now < 0 || now > 1<<40 {
		return api.ErrArg
	}
	if m.holder != w && m.holder >= 0 && now < m.until {
		return api.ErrBusy
	}
	if m.holder != w {
		m.epoch++
	}
	m.holder, m.until = w, now+int64(m.config.Long)
	return nil
}

func (m *model) step(w int, now int64) (int, []deed, error) {
	if m.state == gone {
		return 0, nil, api.ErrGone
	}
	if m.state == frozen {
		return 0, nil, api.ErrBusy
	}
	if err := m.lease(w, now); err != nil {
		return 0, nil, err
	}
	if l := m.apply(); len(l) > 0 {
		return applied, l, nil
	}
	return m.turn(), nil, nil
}

// turn is a micro-step that applies nothing.
func (m *model) turn() int {
	if m.answer() {
		return answered
	}
	if m.state == open {
		if m.redirect() {
			return redirected
		}
		if i := m.first(isPosted, whatever); i >= 0 && m.many(isClaimed) < 32 {
			m.slots[i].state = isClaimed
			return claimed
		}
	}
	if m.begin() {
		return begun
	}
	m.holder = -1
	return idle
}

func (m *model) many(state int) int {
	n := 0
	for _, p := range m.slots {
		if p.state == state {
			n++
		}
	}
	return n
}

// apply applies the first that isn't, and all of its group.
func (m *model) apply() []deed {
	at := slices.IndexFunc(m.batch, func(x item) bool { return !x.applied })
	if at < 0 {
		return nil
	}
	head := m.batch[at].ask
	was, had := m.pairs[head.key]
	var l []deed
	for i := at; i < len(m.batch); i++ {
		x := &m.batch[i]
		if i > at && (head.kind == scan || x.ask.kind == scan || x.ask.key != head.key) {
			break
		}
		x.applied, x.reply = true, m.do(x.ask)
		l = append(l, deed{x.ask, x.reply})
	}
	if then, has := m.pairs[head.key]; has != had || then != was {
		m.stamp++
	}
	return l
}

func (m *model) do(a ask) reply {
	if a.kind != scan {
		return m.pairs.do(a, m.config.Most)
	}
	in, _ := m.span.common(a.span())
	l := m.pairs.keys(in)
	l = l[:min(len(l), a.limit)]
	return reply{rows: rowText(l, func(k string) string { return m.pairs[k] }), stamp: m.stamp}
}

// answer answers the first, in the batch's order, that isn't.
func (m *model) answer() bool {
	at := slices.IndexFunc(m.batch, func(x item) bool { return !x.answered })
	if at < 0 {
		return false
	}
	x := &m.batch[at]
	x.answered = true
	m.slots[x.slot].state, m.slots[x.slot].reply = isDone, x.reply
	if at == len(m.batch)-1 {
		m.batch = nil
	}
	return true
}

// begin begins a batch: by keys, scans of one key last, else by slots.
func (m *model) begin() bool {
	for i, p := range m.slots {
		if p.state == isClaimed {
			m.batch = append(m.batch, item{slot: i, ask: p.ask})
		}
	}
	rank := func(a ask) int { return max(a.kind, scan-1) }
	sort.SliceStable(m.batch, func(i, j int) bool {
		a, b := m.batch[i].ask, m.batch[j].ask
		return a.key < b.key || a.key == b.key && rank(a) < rank(b)
	})
	return len(m.batch) > 0
}

func (m *model) set(state int) error {
	switch {
	case state < 0 || state > 3:
		return api.ErrArg
	case m.state == gone:
		return api.ErrGone
	case (state == frozen || state == gone) && !m.quiet():
		return api.ErrState
	}
	m.state = state
	return nil
}

func (m *model) redirect() bool {
	i := m.first(isPosted, func(a ask) bool { return m.state == gone || !m.fits(a) })
	if i >= 0 {
		m.slots[i].state = isRedirected
	}
	return i >= 0
}

func (m *model) cut(k string, id int) (*model, error) {
	switch {
	case m.state != frozen:
		return nil, api.ErrState
	case id < 0 || len(k) < 1 || len(k) > 16:
		return nil, api.ErrArg
	case !m.span.has(k) || k == m.span.from:
		return nil, api.ErrRange
	}
	fresh, err := newModel(id, span{k, m.span.to}, m.config)
	for _, x := range m.pairs.keys(fresh.span) {
		fresh.pairs[x] = m.pairs[x]
		delete(m.pairs, x)
	}
	m.span.to = k
	m.stamp++
	return fresh, err
}

func (m *model) absorb(q *model) error {
	switch {
	case q == nil || q == m:
		return api.ErrArg
	case m.state != frozen || q.state != frozen:
		return api.ErrState
	case m.span.to == "" || m.span.to != q.span.from:
		return api.ErrRange
	case len(m.pairs)+len(q.pairs) > m.config.Most:
		return api.ErrFull
	}
	for k, v := range q.pairs {
		m.pairs[k] = v
	}
	m.span.to = q.span.to
	m.stamp++
	q.pairs, q.state = sheet{}, gone
	return nil
}
