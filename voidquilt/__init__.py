"""Voidquilt: questions to tables, answered with papers that nothing more answers."""
