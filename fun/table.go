package fun

import (
	"tabula/api"
	"tabula/dec"
	"tabula/plain"
)

// many is how many values functions take that take any number.
const many = 20

// groups make their maps only when they are asked, those that formulas ask most first: each call looks for its function anew.
func groups(now api.Dec) []func() map[string]function {
	timed := func() map[string]function { return choosing(now) }
	return []func() map[string]function{summing, logical, numeric, ranging, textual, timed}
}

func numeric() map[string]function {
	return map[string]function{
		"ABS":      {1, 1, "n", abs},
		"SIGN":     {1, 1, "n", sign},
		"INT":      {1, 1, "n", integer},
		"TRUNC":    {1, 1, "n", truncated},
		"ROUND":    {1, 2, "nn", rounded},
		"MOD":      {2, 2, "nn", modulo},
		"QUOTIENT": {2, 2, "nn", quotient},
		"POWER":    {2, 2, "nn", power},
		"FACT":     {1, 1, "n", factorial},
		"ISEVEN":   {1, 1, "n", parity(true)},
		"ISODD":    {1, 1, "n", parity(false)},
		"VALUE":    {1, 1, "n", same},
		"CHAR":     {1, 1, "n", char},
	}
}

func logical() map[string]function {
	return map[string]function{
		"NOT":       {1, 1, "b", not},
		"IF":        {2, 3, "bvv", choice},
		"IFERROR":   {2, 2, "vv", unless(isFault)},
		"IFNA":      {2, 2, "vv", unless(isNA)},
		"ISNUMBER":  {1, 1, "v", whether(isKind(api.Num))},
		"ISTEXT":    {1, 1, "v", whether(isKind(api.Text))},
		"ISLOGICAL": {1, 1, "v", whether(isKind(api.Truth))},
		"ISERROR":   {1, 1, "v", whether(isFault)},
		"ISBLANK":   {1, 1, "v", whether(isKind(api.Empty))},
		"ISNA":      {1, 1, "v", whether(isNA)},
		"AND":       {1, many, "", ofTruths(allOf)},
		"OR":        {1, many, "", ofTruths(someOf)},
		"XOR":       {1, many, "", ofTruths(oddOf)},
		"TRUE":      {0, 0, "", always(plain.Truth(true))},
		"FALSE":     {0, 0, "", always(plain.Truth(false))},
		"NA":        {0, 0, "", always(plain.Fault(api.VNA))},
	}
}

func textual() map[string]function {
	return map[string]function{
		"LEN":        {1, 1, "t", length},
		"LEFT":       {1, 2, "tn", left},
		"RIGHT":      {1, 2, "tn", right},
		"MID":        {3, 3, "tnn", middle},
		"UPPER":      {1, 1, "t", upper},
		"LOWER":      {1, 1, "t", lower},
		"TRIM":       {1, 1, "t", trim},
		"REPT":       {2, 2, "tn", repeat},
		"FIND":       {2, 3, "ttn", search},
		"SUBSTITUTE": {3, 3, "ttt", substitute},
		"EXACT":      {2, 2, "tt", exact},
		"CODE":       {1, 1, "t", code},
		"CONCAT":     {1, many, "", concat},
		"TEXTJOIN":   {3, many, "", textJoin},
	}
}

func summing() map[string]function {
	return map[string]function{
		"SUM":        {1, many, "", ofNumbers(sum)},
		"PRODUCT":    {1, many, "", ofNumbers(product)},
		"MIN":        {1, many, "", ofNumbers(least)},
		"MAX":        {1, many, "", ofNumbers(greatest)},
		"AVERAGE":    {1, many, "", ofNumbers(average)},
		"MEDIAN":     {1, many, "", ofNumbers(median)},
		"COUNT":      {1, many, "", counting(isKind(api.Num))},
		"COUNTA":     {1, many, "", counting(isSome)},
		"COUNTBLANK": {1, many, "", counting(isBlank)},
		"LARGE":      {2, 2, "", ranked(func(a, b api.Dec) int { return dec.Compare(b, a) })},
		"SMALL":      {2, 2, "", ranked(dec.Compare)},
		"COUNTIF":    {2, 2, "", countIf},
		"SUMIF":      {2, 3, "", sumIf},
	}
}

func choosing(now api.Dec) map[string]function {
	return map[string]function{
		"NOW":    {0, 0, "", always(time(now))},
		"CHOOSE": {2, many, "", choose},
		"TYPE":   {1, 1, "", typeOf},
	}
}

func ranging() map[string]function {
	return map[string]function{
		"ROWS":      {1, 1, "", rows},
		"COLUMNS":   {1, 1, "", columns},
		"INDEX":     {2, 3, "", index},
		"MATCH":     {2, 2, "", match},
		"TRANSPOSE": {1, 1, "", transpose},
		"SEQUENCE":  {1, 4, "", sequence},
		"UNIQUE":    {1, 1, "", unique},
		"SORT":      {1, 2, "", sort},
		"FILTER":    {2, 3, "", filter},
		"VLOOKUP":   {3, 3, "", lookUp},
	}
}
