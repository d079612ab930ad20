// Package right says what of a workbook's parts is right by itself, whatever workbook it stands in.
package right

import (
	"strings"

	"tabula/api"
	"tabula/letters"
	"tabula/places"
	"tabula/ref"
	"tabula/tree"
	"tabula/val"
)

// The greatest style that a rule may have.
const maxStyle = 99

// Place says whether sheets can have a place.
func Place(at api.At) bool {
	return ref.Has(api.Area{Sheet: at.Sheet, Rows: api.MaxRows, Cols: api.MaxCols}, at)
}

// Area says whether an area has places, and sheets can have all of them.
func Area(a api.Area) bool {
	_, ok := ref.Meet(a, a)
	return ok
}

// Sheet says whether a sheet may be called so.
func Sheet(name string) bool {
	return name != "" && ref.Right(api.Ref{Sheet: name})
}

// Name says whether a name or a table may be called so, which is to say that a formula may have it as a name.
func Name(s string) bool {
	return tree.Right(api.Node{Kind: api.NName, S: s})
}

// Formula says whether s is an equals sign, and a formula behind it.
func Formula(s string) bool {
	_, ok := Tree(s)
	return ok
}

// Tree is that of a formula with its equals sign; false, if it is not right.
func Tree(s string) (api.Node, bool) {
	rest, found := strings.CutPrefix(s, "=")
	if !found || len(s) > api.MaxInput {
		return api.Node{}, false
	}
	n, _, err := tree.Read(rest)
	return n, err == api.OK
}

// Input says whether s may be put into a cell, and is not empty.
func Input(s string) bool {
	if s == "" || len(s) > api.MaxInput {
		return false
	}
	_, err := val.Read(s)
	return err == api.OK || Formula(s)
}

// Table says whether a table is right, wherever else tables stand. The area goes ahead of the columns: it bounds how many they are.
func Table(t api.Table) bool {
	return Name(t.Name) && t.Rows >= 1 && Area(places.OfTable(t)) && areColumns(t.Cols)
}

// Rule says whether a rule is right.
func Rule(r api.Rule) bool {
	if r.Must && r.Style != 0 || !r.Must && (r.Style < 1 || r.Style > maxStyle) {
		return false
	}
	return Area(r.Area) && Formula(r.Formula)
}

func areColumns(list []string) bool {
	good := 0
columns:
	for i, name := range list {
		if !isColumn(name) {
			break
		}
		for _, ahead := range list[:i] {
			if letters.Alike(ahead, name) {
				break columns
			}
		}
		good++
	}
	return good == len(list)
}

func isColumn(name string) bool {
	if name == "" || len(name) > api.MaxName || strings.Trim(name, " ") != name {
		return false
	}
	for _, c := range name {
		if !letters.IsLetter(c) && !letters.IsDigit(c) && c != ' ' && c != '_' {
			return false
		}
	}
	return true
}
