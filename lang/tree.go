package lang

// program is what a source says.
type program struct {
	regions []*region
	comps   []*comp
}

// ident is a name as it stands at a token.
type ident struct {
	text string
	at   int
}

// number is a NUMBER as it stands at a token.
type number struct {
	n, at int
}

// region has size.n elements, of 64 bits or of 8.
type region struct {
	name  ident
	size  number
	words bool
	base  int // where it lies in memory
}

// use is a region as it is lent: to be read, or to be stored into, too. Is tells which one is meant, if it is one.
type use struct {
	region ident
	stores bool
	is     *region
}

// comp is a compartment; open and shut are the tokens of its braces.
type comp struct {
	name       ident
	head       []*use
	open, shut int
	functions  []*function
}

type function struct {
	name   ident
	gate   int
	params []param
	body   []stmt
}

// param is an integer, if nothing is lent by it.
type param struct {
	name ident
	lent *use
}

// stmt is a statement: one of the types below.
type stmt interface {
	judge(j *judge)
	write(w *writer)
}

type (
	// letStmt and setStmt give a name a value; is tells what the name stands for.
	letStmt struct {
		name  ident
		value value
		is    thing
	}
	setStmt struct {
		name  ident
		value value
		is    thing
	}
	storeStmt struct {
		element
		value expr
	}
	callStmt struct {
		call *call
	}
	ifStmt struct {
		asked      expr
		then, less []stmt
	}
	whileStmt struct {
		asked expr
		body  []stmt
	}
	outStmt struct {
		value expr
	}
	needStmt struct {
		asked expr
		code  number
	}
	trapStmt struct {
		code number
	}
	returnStmt struct {
		value expr
	}
)

// value is what a name is given: what comes of a call, if there is one, else an expr.
type value struct {
	call *call
	expr expr
}

// call has the function that is meant.
type call struct {
	name ident
	args []expr
	to   *function
}

// expr is one of the types below. What it writes lays its value in a register; on the way there it uses free ones, from the one that is told on, as many as it is high. That register may be a name's: it is written into only where no name is read any more.
type expr interface {
	first() int
	height() int
	judge(j *judge)
	write(w *writer, to int, free int)
}

// place is where an expr begins.
type place struct {
	at int
}

func (p place) first() int { return p.at }

type (
	numberExpr struct {
		place
		n int
	}
	inputExpr struct {
		place
	}
	nameExpr struct {
		place
		name string
		is   thing
	}
	elementExpr struct {
		place
		element
	}
	bracketExpr struct {
		place
		inner expr
	}
	// signedExpr has a `-` or a `!` ahead of it.
	signedExpr struct {
		place
		sign  string
		inner expr
	}
	pairExpr struct {
		place
		sign        string
		left, right expr
	}
)

// element is one of a region's, by its number.
type element struct {
	name  ident
	index expr
	is    thing
}
