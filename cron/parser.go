package cron

// A parser takes an expression rune by rune.
type parser struct {
	allowed [fields]uint64
	starred [fields]bool
	field   int  // the one that is read, or that comes next
	open    bool // something of it has been read
	item    item
}

// An item is what has been read of it so far: a number, or, behind a `-`, two.
type item struct {
	digits, number int
	ranged         bool
	first          int // the number ahead of the `-`
}

const maxDigits = 2

// take reads the next rune; it answers false if it can't stand there.
func (p *parser) take(r rune) bool {
	if r == ' ' || r == '\t' {
		return !p.open || p.endField()
	}
	if p.field == fields {
		return false
	}
	fresh := !p.open
	p.open = true
	switch {
	case r == '*':
		p.starred[p.field] = true
		return fresh
	case p.starred[p.field]:
		return false
	case r == ',':
		return p.endItem()
	case r == '-':
		return p.item.takeDash()
	case r >= '0' && r <= '9':
		return p.item.takeDigit(int(r - '0'))
	}
	return false
}

func (p *parser) endField() bool {
	if p.starred[p.field] {
		p.allowed[p.field] = all(p.field)
	} else if !p.endItem() {
		return false
	}
	p.field++
	p.open = false
	return true
}

func (p *parser) endItem() bool {
	first, last, whole := p.item.numbers()
	b := bounds[p.field]
	if !whole || first < b.least || last > b.most {
		return false
	}
	p.allowed[p.field] |= run(first, last)
	p.item = item{}
	return true
}

func (i *item) takeDigit(n int) bool {
	i.number = i.number*10 + n
	i.digits++
	return i.digits <= maxDigits
}

func (i *item) takeDash() bool {
	if i.ranged || i.digits == 0 {
		return false
	}
	*i = item{ranged: true, first: i.number}
	return true
}

// numbers tells the first and the last one of an item, and whether it is one.
func (i *item) numbers() (first, last int, whole bool) {
	first, last = i.number, i.number
	if i.ranged {
		first = i.first
	}
	return first, last, i.digits > 0 && first <= last
}

func (p *parser) expr() Expr {
	return Expr{
		Minute:     p.allowed[minutes],
		Hour:       p.allowed[hours],
		Day:        p.allowed[days],
		Month:      p.allowed[months],
		Weekday:    p.allowed[weekdays],
		AnyDay:     p.starred[days],
		AnyWeekday: p.starred[weekdays],
	}
}
