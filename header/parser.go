package header

import (
	"graftbed/api"
	"graftbed/paths"
	"graftbed/scan"
)

// The kinds of tokens that a header is made of, as scan tells them.
const (
	kindName    = 1
	kindText    = 2
	kindSign    = 3
	kindComment = 4
)

// parser reads a header's clause and declarations. A token that does not fit
// goes up as a panic with its fault.
type parser struct {
	*scan.Scanner
	token   scan.Token   // the one that comes next
	header  Header       // what is told so far
	remarks []scan.Token // the comments ahead of the clause
	first   int          // the line in which the clause begins
	last    int          // the line of the last semicolon
}

// read reads all up to what is no import declaration.
func (p *parser) read() (bad api.Fault) {
	defer func() {
		if f := recover(); f != nil {
			bad = f.(api.Fault)
		}
	}()
	p.readRemarks()
	p.readClause()
	for p.is(kindName, "import") {
		p.readDeclaration()
	}
	return api.Fault{}
}

func (p *parser) readRemarks() {
	for p.step(); p.token.Kind == kindComment; p.step() {
		p.remarks = append(p.remarks, p.token)
	}
}

func (p *parser) readClause() {
	p.first = p.token.Line
	p.take(p.is(kindName, "package"))
	name := p.take(p.token.Kind == kindName && p.token.Text != "_")
	p.header.Package = name.Text
	p.takeSemicolon()
}

func (p *parser) readDeclaration() {
	p.skip()
	if p.is(kindSign, "(") {
		p.readBlock()
	} else {
		p.readImport()
	}
	p.takeSemicolon()
}

func (p *parser) readBlock() {
	p.skip()
	for !p.is(kindSign, ")") {
		p.readImport()
		if !p.is(kindSign, ")") {
			p.takeSemicolon()
		}
	}
	p.skip()
}

func (p *parser) readImport() {
	var i Import
	if p.token.Kind == kindName || p.is(kindSign, ".") {
		i.Name = p.token.Text
		p.skip()
	}
	// C needs no question of its own: it may be a path, too.
	text := p.take(p.token.Kind == kindText && paths.Import(p.token.Text) == api.OK)
	i.Path, i.Line = text.Text, text.Line
	p.header.Imports = append(p.header.Imports, i)
}

// takeSemicolon goes on behind a semicolon, or the line feed that stands for one.
func (p *parser) takeSemicolon() {
	t := p.take(p.is(kindSign, ";") || p.is(kindSign, lineFeed))
	p.last = t.Line
}

// take is the token, which is gone on from, if it fits.
func (p *parser) take(fits bool) scan.Token {
	t := p.token
	if !fits {
		panic(api.Fault{E: api.ErrClause, Line: t.Line})
	}
	p.skip()
	return t
}

// is tells whether the token is that one.
func (p *parser) is(kind int, text string) bool {
	return p.token.Kind == kind && p.token.Text == text
}

// skip goes on to the next token that is no comment.
func (p *parser) skip() {
	p.step()
	for p.token.Kind == kindComment {
		p.step()
	}
}

// step goes on to the next token.
func (p *parser) step() {
	t, bad := p.Next()
	if bad != (api.Fault{}) {
		panic(bad)
	}
	p.token = t
}
