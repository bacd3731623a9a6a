"""Tables kept through falls, and questions answered by the cheapest plan."""
